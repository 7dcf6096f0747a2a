import Derived.Deep.RegionHeld3
import Derived.Test.YtpngikmcjkjdaaaGreatDoorG10
import Derived.Test.YtpngikmcjkjdaaaGreatDoorG14
import Derived.Test.YtpngikmcjkjdaaaGreatDoorG16
import Derived.Test.YtpngikmcjkjdaaaGreatDoorG19
import Derived.Test.YtpngikmcjkjdaaaGreatDoorG2
import Derived.Test.YtpngikmcjkjdaaaGreatDoorG3
import Derived.Test.YtpngikmcjkjdaaaGreatDoorG4
set_option linter.unusedVariables false
set_option linter.unusedSimpArgs false
namespace Go.Proofs.YtpngikmcjkjdaaaGreatDoor
open Go.RowKit
set_option linter.unusedVariables false
set_option linter.unusedSimpArgs false
section
variable {w w2 : World}
theorem rk_blk {base e s n t b : Nat} {v : Value} {x : List Value} {cs : Array Value} {k : Nat × Nat} (h : w.ownsRow base e s v n x) (hb : w.heap[b]? = some (.cells cs t k)) (hne : e ≠ t) (g : Nat) (hg : v.ownBlock = some g) : g ≠ b := by
  rcases h.2 with ⟨rfl, _⟩ | ⟨a, cap, cur, rfl, _, h1, _⟩
  · simp [Value.ownBlock] at hg
  · simp only [Value.ownBlock, Option.some.injEq] at hg
    subst hg
    rintro rfl
    rw [h1] at hb
    simp only [Option.some.injEq, Obj.cells.injEq] at hb
    exact hne hb.2.1
theorem rk_apart {base base' e e' s s' n n' : Nat} {v v' : Value} {x x' : List Value} (h : w.ownsRow base e s v n x) (h' : w.ownsRow base' e' s' v' n' x') (hne : e ≠ e') (g : Nat) (hg : v.ownBlock = some g) (hg' : v'.ownBlock = some g) : False := by
  rcases h'.2 with ⟨rfl, _⟩ | ⟨a, cap, cur, rfl, _, h1, _⟩
  · simp [Value.ownBlock] at hg'
  · simp only [Value.ownBlock, Option.some.injEq] at hg'
    subst hg'
    exact rk_blk h h1 hne _ hg rfl
theorem rk_keeps {base base' e e' s s' n n' : Nat} {v v' : Value} {x x' : List Value} (h : w.ownsRow base e s v n x) (h' : w.ownsRow base' e' s' v' n' x') (hne : e ≠ e') (hg : w.grownBy w2 v'.ownBlock) : w2.ownsRow base e s v n x := by
  refine h.kept hg ?_
  cases hv : v.ownBlock with
  | none => exact .inl rfl
  | some k => exact .inr (fun e => rk_apart h h' hne k hv e.symm)
end
def Keeps3 (w w' : World) : Prop := ∀ (k : Nat) (cs : Array Value) (t : Nat) (f : Nat × Nat), (t = 104 ∨ t = 9 ∨ t = 199) → w.heap[k]? = some (.cells cs t f) → w'.heap[k]? = some (.cells cs t f)
theorem RsAt.keeps {w w' : World} {eo no : Option Addr} {ec nc : Nat} {L : List Ex} (h : RsAt w eo ec no nc L) (hk : Keeps3 w w') : RsAt w' eo ec no nc L := by
  obtain ⟨⟨gs, h1, h2⟩, h3⟩ := h
  have key : ∀ {t n : Nat} {v : Value} {xs : List Value}, (t = 104 ∨ t = 9 ∨ t = 199) → w.ownsRow 0 t 1 v n xs → w'.ownsRow 0 t 1 v n xs := by
    intro t n v xs ht ho
    refine ⟨ho.1, ?_⟩
    rcases ho.2 with e1 | ⟨g, cap, cur, e1, e2, e3, r⟩
    · exact .inl e1
    · exact .inr ⟨g, cap, cur, e1, e2, hk g _ _ _ ht e3, r⟩
  have kex : ∀ (g : Nat) (e : Ex), ExAt w g e → ExAt w' g e := by
    intro g e h
    induction e generalizing g with
    | nil => exact hk _ _ _ _ (.inr (.inr rfl)) h
    | one S => exact hk _ _ _ _ (.inr (.inr rfl)) h
    | thn a b iha ihb => obtain ⟨ga, gb, h1, h2, h3⟩ := h; exact ⟨ga, gb, hk _ _ _ _ (.inr (.inr rfl)) h1, iha _ h2, ihb _ h3⟩
    | alt a b iha ihb => obtain ⟨ga, gb, h1, h2, h3⟩ := h; exact ⟨ga, gb, hk _ _ _ _ (.inr (.inr rfl)) h1, iha _ h2, ihb _ h3⟩
    | star a iha => obtain ⟨ga, h1, h2⟩ := h; exact ⟨ga, hk _ _ _ _ (.inr (.inr rfl)) h1, iha _ h2⟩
  exact ⟨⟨gs, key (.inl rfl) h1, h2.imp kex⟩, key (.inr (.inl rfl)) h3⟩
theorem Keeps3.trans {w w1 w2 : World} (h : Keeps3 w w1) (h' : Keeps3 w1 w2) : Keeps3 w w2 := fun k cs t f ht hk => h' k cs t f ht (h k cs t f ht hk)
theorem Keeps3.grown {w w' : World} {base e s n : Nat} {v : Value} {x : List Value} (ho : w.ownsRow base e s v n x) (h1 : e ≠ 104) (h2 : e ≠ 9) (h3 : e ≠ 199) (hg : w.grownBy w' v.ownBlock) : Keeps3 w w' := by
  intro k cs t f ht hk
  rw [hg.block k (heap_lt hk) ?_, hk]
  intro e1
  refine rk_blk ho hk ?_ k e1.symm rfl
  rcases ht with rfl | rfl | rfl
  · exact h1
  · exact h2
  · exact h3
theorem Keeps3.set {w : World} {b i t : Nat} {u : Value} {cs : Array Value} {f : Nat × Nat} (hb : w.heap[b]? = some (.cells cs t f)) (h1 : t ≠ 104) (h2 : t ≠ 9) (h3 : t ≠ 199) : Keeps3 w (w.setCell ⟨b, i, none⟩ u) := by
  intro k cs' t' f' ht hk
  refine heap_set_other hk ?_
  intro e
  have e' : k = b := e
  subst e'
  rw [hb] at hk
  simp only [Option.some.injEq, Obj.cells.injEq] at hk
  obtain ⟨_, rfl, _⟩ := hk
  rcases ht with rfl | rfl | rfl
  · exact h1 rfl
  · exact h2 rfl
  · exact h3 rfl
def stcells (D : Nat → List Ex) (EO NO : Nat → Option Addr) (EC NC : Nat → Nat) : Nat → List Value
  | 0 => []
  | k + 1 => stcells D EO NO EC NC k ++ [.slice (EO k) (D k).length (EC k), .slice (NO k) (D k).length (NC k)]
theorem stcells_len (D : Nat → List Ex) (EO NO : Nat → Option Addr) (EC NC : Nat → Nat) (k : Nat) : (stcells D EO NO EC NC k).length = k * 2 := by
  induction k with
  | zero => rfl
  | succ k ih => simp [stcells, ih]; omega
theorem stcells_congr {D D' : Nat → List Ex} {EO NO EO' NO' : Nat → Option Addr} {EC NC EC' NC' : Nat → Nat} {k : Nat} (h : ∀ i, i < k → D i = D' i ∧ EO i = EO' i ∧ NO i = NO' i ∧ EC i = EC' i ∧ NC i = NC' i) : stcells D EO NO EC NC k = stcells D' EO' NO' EC' NC' k := by
  induction k with
  | zero => rfl
  | succ k ih =>
    obtain ⟨h1, h2, h3, h4, h5⟩ := h k (by omega)
    simp only [stcells]
    rw [ih (fun i hi => h i (by omega)), h1, h2, h3, h4, h5]
theorem stcells_at (D : Nat → List Ex) (EO NO : Nat → Option Addr) (EC NC : Nat → Nat) (k i : Nat) (hi : i < k) : (stcells D EO NO EC NC k)[i * 2]? = some (.slice (EO i) (D i).length (EC i)) ∧ (stcells D EO NO EC NC k)[i * 2 + 1]? = some (.slice (NO i) (D i).length (NC i)) := by
  induction k with
  | zero => omega
  | succ k ih =>
    have hl := stcells_len D EO NO EC NC k
    simp only [stcells]
    by_cases e : i = k
    · subst e
      constructor
      · rw [List.getElem?_append_right (by omega), hl, Nat.sub_self]; rfl
      · rw [List.getElem?_append_right (by omega), hl, show i * 2 + 1 - i * 2 = 1 by omega]; rfl
    · obtain ⟨h1, h2⟩ := ih (by omega)
      constructor
      · rw [List.getElem?_append_left (by omega)]; exact h1
      · rw [List.getElem?_append_left (by omega)]; exact h2
theorem bm_rebase {W w : World} {b : Nat} {va vn : Value} {ka kn : Nat} {A : Nat → Bool} {R C : Nat → Nat} {X : Nat → Nat → Nat} (h : BuildMem W b w va vn ka kn A R C X) : BuildMem w b w va vn ka kn A R C X :=
  ⟨⟨Below.refl _ _, h.two.blk, h.two.own0, h.two.own1, h.two.dis⟩, h.rows⟩
theorem ac_congr {A A' : Nat → Bool} {k : Nat} (h : ∀ i, i < k → A i = A' i) : acells A k = acells A' k := by
  induction k with
  | zero => rfl
  | succ k ih => simp only [acells]; rw [ih (fun i hi => h i (by omega)), h k (by omega)]
theorem ic_congr {X Y : Nat → Nat} {k : Nat} (h : ∀ i, i < k → X i = Y i) : icells X k = icells Y k := by
  simp only [icells]; apply List.map_congr_left; intro i hi; rw [h i (by simpa using hi)]
theorem bm_congr {W w : World} {b : Nat} {va vn : Value} {ka kn : Nat} {A : Nat → Bool} {R C : Nat → Nat} {X : Nat → Nat → Nat} (h : BuildMem W b w va vn ka kn A R C X) {A' : Nat → Bool} {X' : Nat → Nat → Nat} (ha : ∀ i, i < ka → A i = A' i) (hx : ∀ i c, i < kn → c < 8 → X i c = X' i c) : BuildMem W b w va vn ka kn A' R C X' :=
  ⟨by have := h.two; rw [ac_congr ha] at this; exact this, fun i hi => by have := h.rows i hi; rw [ic_congr (fun c hc => hx i c hi hc)] at this; exact this⟩
structure RestMem (W : World) (B b : Nat) (w : World) (n : Nat) (D : Nat → List Ex) (EO NO : Nat → Option Addr) (EC NC : Nat → Nat) (vs va vn : Value) (ka kn : Nat) (A : Nat → Bool) (R C : Nat → Nat) (X : Nat → Nat → Nat) : Prop where
  blw : Below B W w
  own : w.ownsRow B 146 2 vs n (stcells D EO NO EC NC n)
  sts : ∀ i, i < n → RsAt w (EO i) (EC i) (NO i) (NC i) (D i)
  bm : BuildMem w b w va vn ka kn A R C X
  hb : B ≤ b
structure RestRow (W : World) (B b : Nat) (w : World) (n : Nat) (D : Nat → List Ex) (EO NO : Nat → Option Addr) (EC NC : Nat → Nat) (vs va vn vr : Value) (ka kn c : Nat) (A : Nat → Bool) (R C : Nat → Nat) (X : Nat → Nat → Nat) : Prop where
  mem : RestMem W B b w n D EO NO EC NC vs va vn ka kn A R C X
  row : w.ownsRow (b + 1) 3 1 vr c (icells (X kn) c)
  dr : ∀ i, i < kn → vr.ownBlock ≠ some (R i)
section
variable {W : World} {B b : Nat} {w w1 w2 : World} {n : Nat} {D : Nat → List Ex} {EO NO : Nat → Option Addr} {EC NC : Nat → Nat} {vs va vn vr : Value} {ka kn c : Nat} {A : Nat → Bool} {R C : Nat → Nat} {X : Nat → Nat → Nat}
theorem RestMem.siz (h : RestMem W B b w n D EO NO EC NC vs va vn ka kn A R C X) : b < w.heap.size := heap_lt h.bm.two.blk
theorem RestMem.below (h : RestMem W B b w n D EO NO EC NC vs va vn ka kn A R C X) (hb : Below w.heap.size w w1) : RestMem W B b w1 n D EO NO EC NC vs va vn ka kn A R C X :=
  ⟨h.blw.trans (hb.mono (by have := h.siz; have := h.hb; omega)), ownsRow_below h.own hb, fun i hi => (h.sts i hi).below hb, bm_rebase (h.bm.below hb), h.hb⟩
theorem RestRow.below (h : RestRow W B b w n D EO NO EC NC vs va vn vr ka kn c A R C X) (hb : Below w.heap.size w w1) : RestRow W B b w1 n D EO NO EC NC vs va vn vr ka kn c A R C X :=
  ⟨h.mem.below hb, ownsRow_below h.row hb, h.dr⟩
theorem RestMem.congr (h : RestMem W B b w n D EO NO EC NC vs va vn ka kn A R C X) {A' : Nat → Bool} {X' : Nat → Nat → Nat} {D' : Nat → List Ex} (hd : ∀ i, i < n → D i = D' i) (ha : ∀ i, i < ka → A i = A' i) (hx : ∀ i c, i < kn → c < 8 → X i c = X' i c) : RestMem W B b w n D' EO NO EC NC vs va vn ka kn A' R C X' :=
  ⟨h.blw, by have := h.own; rw [stcells_congr (fun i hi => ⟨hd i hi, rfl, rfl, rfl, rfl⟩)] at this; exact this, fun i hi => by rw [← hd i hi]; exact h.sts i hi, bm_congr h.bm ha hx, h.hb⟩
theorem RestRow.congr (h : RestRow W B b w n D EO NO EC NC vs va vn vr ka kn c A R C X) {A' : Nat → Bool} {X' : Nat → Nat → Nat} {D' : Nat → List Ex} (hd : ∀ i, i < n → D i = D' i) (ha : ∀ i, i < ka → A i = A' i) (hx : ∀ i c, i < kn → c < 8 → X i c = X' i c) (hr : ∀ d, d < c → X kn d = X' kn d) : RestRow W B b w n D' EO NO EC NC vs va vn vr ka kn c A' R C X' :=
  ⟨h.mem.congr hd ha hx, by have := h.row; rw [ic_congr hr] at this; exact this, h.dr⟩
theorem RestMem.row0 (h : RestMem W B b w n D EO NO EC NC vs va vn ka kn A R C X) : RestRow W B b w n D EO NO EC NC vs va vn (.slice none 0 0) ka kn 0 A R C X :=
  ⟨h, World.ownsRow_nil _ _ _ _, by intro i _ e; simp [Value.ownBlock] at e⟩
theorem RestMem.acc (h : RestMem W B b w n D EO NO EC NC vs va vn ka kn A R C X) {g cap : Nat} (hown : w2.ownsRow (b + 1) 4 1 (.slice (some ⟨g, 0, none⟩) (ka + 1) cap) (ka + 1) (acells A ka ++ [.bool (A ka)])) (hg : w.grownBy w2 va.ownBlock) (hf : va.ownBlock = some g ∨ g = w.heap.size) :
    RestMem W B b (w2.setCell ⟨b, 0, none⟩ (.slice (some ⟨g, 0, none⟩) (ka + 1) cap)) n D EO NO EC NC vs (.slice (some ⟨g, 0, none⟩) (ka + 1) cap) vn (ka + 1) kn A R C X := by
  have hs := h.siz
  have hB := h.hb
  have h0 := h.bm.two.own0
  have hown' := rk_keeps h.own h0 (by decide) hg
  have hblk := h.bm.two.grown0 hg
  exact ⟨(h.blw.grown hg (by omega) (fun k e => by have := (h0.lt k e).1; omega)).setCell (by simp; omega) _, ownsRow_set hown' _ _ (fun g' hg' => rk_blk hown' hblk (by decide) g' hg'), fun i hi => (h.sts i hi).keeps ((Keeps3.grown h0 (by decide) (by decide) (by decide) hg).trans (Keeps3.set hblk (by decide) (by decide) (by decide))), bm_rebase (h.bm.acc hown hg hf), h.hb⟩
theorem RestRow.put (h : RestRow W B b w n D EO NO EC NC vs va vn vr ka kn c A R C X) {g cap : Nat} (hown : w2.ownsRow (b + 1) 3 1 (.slice (some ⟨g, 0, none⟩) (c + 1) cap) (c + 1) (icells (X kn) c ++ [.int .i64 ((X kn c : Nat) : Int)])) (hg : w.grownBy w2 vr.ownBlock) (hf : vr.ownBlock = some g ∨ g = w.heap.size) :
    RestRow W B b w2 n D EO NO EC NC vs va vn (.slice (some ⟨g, 0, none⟩) (c + 1) cap) ka kn (c + 1) A R C X := by
  have hm := h.mem
  have hs := hm.siz
  have hB := hm.hb
  rw [← icells_succ] at hown
  refine ⟨⟨hm.blw.grown hg (by omega) (fun k e => by have := (h.row.lt k e).1; omega), rk_keeps hm.own h.row (by decide) hg, fun i hi => (hm.sts i hi).keeps (Keeps3.grown h.row (by decide) (by decide) (by decide) hg), bm_rebase (hm.bm.grown h.row h.dr hg), hm.hb⟩, hown, ?_⟩
  intro i hi e
  simp only [Value.ownBlock, Option.some.injEq] at e
  rcases hf with hf | hf
  · exact h.dr i hi (by rw [hf, e])
  · have := ((hm.bm.rows i hi).lt (R i) rfl).2; omega
theorem RestRow.state (h : RestRow W B b w n D EO NO EC NC vs va vn vr ka kn c A R C X) {g cap ec nc : Nat} {eo no : Option Addr} (hnew : RsAt w eo ec no nc (D n))
    (hown : w2.ownsRow B 146 2 (.slice (some ⟨g, 0, none⟩) (n + 1) cap) (n + 1) (stcells D EO NO EC NC n ++ [.slice eo (D n).length ec, .slice no (D n).length nc])) (hg : w.grownBy w2 vs.ownBlock) :
    RestRow W B b w2 (n + 1) D (fun i => if i = n then eo else EO i) (fun i => if i = n then no else NO i) (fun i => if i = n then ec else EC i) (fun i => if i = n then nc else NC i) (.slice (some ⟨g, 0, none⟩) (n + 1) cap) va vn vr ka kn c A R C X := by
  have hm := h.mem
  have hs := hm.siz
  have hB := hm.hb
  have hK : Keeps3 w w2 := Keeps3.grown hm.own (by decide) (by decide) (by decide) hg
  have es : stcells D EO NO EC NC n ++ [Value.slice eo (D n).length ec, Value.slice no (D n).length nc] = stcells D (fun i => if i = n then eo else EO i) (fun i => if i = n then no else NO i) (fun i => if i = n then ec else EC i) (fun i => if i = n then nc else NC i) (n + 1) := by
    simp only [stcells, if_true]
    rw [stcells_congr (D' := D) (EO' := fun i => if i = n then eo else EO i) (NO' := fun i => if i = n then no else NO i) (EC' := fun i => if i = n then ec else EC i) (NC' := fun i => if i = n then nc else NC i) ?_]
    intro i hi
    have : i ≠ n := by omega
    simp [this]
  rw [es] at hown
  refine ⟨⟨hm.blw.grown hg (by omega) (fun k e => (hm.own.lt k e).1), hown, fun i hi => ?_, ?_, hm.hb⟩, rk_keeps h.row hm.own (by decide) hg, h.dr⟩
  · by_cases e : i = n
    · subst e; simp only [if_true]; exact hnew.keeps hK
    · simp only [if_neg e]; exact (hm.sts i (by omega)).keeps hK
  · have hbm := hm.bm
    refine ⟨⟨Below.refl _ _, ?_, rk_keeps hbm.two.own0 hm.own (by decide) hg, rk_keeps hbm.two.own1 hm.own (by decide) hg, hbm.two.dis⟩, fun i hi => rk_keeps (hbm.rows i hi) hm.own (by decide) hg⟩
    rw [hg.block b hs (fun e => rk_blk hm.own hbm.two.blk (by decide) b e.symm rfl)]; exact hbm.two.blk
theorem RestRow.done {gr cr : Nat} (h : RestRow W B b w n D EO NO EC NC vs va vn (.slice (some ⟨gr, 0, none⟩) 8 cr) ka kn 8 A R C X) {g cap : Nat}
    (hown : w2.ownsRow (b + 1) 24 1 (.slice (some ⟨g, 0, none⟩) (kn + 1) cap) (kn + 1) (scells R C kn ++ [.slice (some ⟨gr, 0, none⟩) 8 cr])) (hg : w.grownBy w2 vn.ownBlock) (hf : vn.ownBlock = some g ∨ g = w.heap.size) :
    RestMem W B b (w2.setCell ⟨b, 1, none⟩ (.slice (some ⟨g, 0, none⟩) (kn + 1) cap)) n D EO NO EC NC vs va (.slice (some ⟨g, 0, none⟩) (kn + 1) cap) ka (kn + 1) A (fun i => if i = kn then gr else R i) (fun i => if i = kn then cr else C i) X := by
  have hm := h.mem
  have hs := hm.siz
  have hB := hm.hb
  have h1 := hm.bm.two.own1
  have hown' := rk_keeps hm.own h1 (by decide) hg
  have hblk := hm.bm.two.grown1 hg
  exact ⟨(hm.blw.grown hg (by omega) (fun k e => by have := (h1.lt k e).1; omega)).setCell (by simp; omega) _, ownsRow_set hown' _ _ (fun g' hg' => rk_blk hown' hblk (by decide) g' hg'), fun i hi => (hm.sts i hi).keeps ((Keeps3.grown h1 (by decide) (by decide) (by decide) hg).trans (Keeps3.set hblk (by decide) (by decide) (by decide))), bm_rebase (hm.bm.nxt h.row hown hg hf), hm.hb⟩
end
end Go.Proofs.YtpngikmcjkjdaaaGreatDoor
namespace Go.Proofs.YtpngikmcjkjdaaaGreatDoor
set_option linter.unusedVariables false
set_option linter.unusedSimpArgs false
theorem pds_let {e : Ex} : ∀ d ∈ e.pds, d.letters ≤ e.letters * (e.dep + 1) := by
  induction e with
  | nil => intro d hd; simp [Ex.pds] at hd
  | one S => intro d hd; simp [Ex.pds] at hd; subst hd; exact Nat.zero_le _
  | alt a b iha ihb =>
    intro d hd
    simp only [Ex.pds, List.mem_append] at hd
    simp only [Ex.dep, Ex.letters]
    rcases hd with hd | hd
    · exact Nat.le_trans (iha d hd) (Nat.mul_le_mul (by omega) (by omega))
    · exact Nat.le_trans (ihb d hd) (Nat.mul_le_mul (by omega) (by omega))
  | thn a b iha ihb =>
    intro d hd
    simp only [Ex.pds, List.mem_append, List.mem_map] at hd
    simp only [Ex.dep, Ex.letters]
    rcases hd with ⟨y, hy, rfl⟩ | hd
    · have h1 := iha y hy
      have h2 := thn'_letters y b
      have h3 : a.letters * (a.dep + 1) ≤ a.letters * (max a.dep b.dep + 1 + 1) := Nat.mul_le_mul_left _ (by omega)
      have h4 : b.letters * 1 ≤ b.letters * (max a.dep b.dep + 1 + 1) := Nat.mul_le_mul_left _ (by omega)
      rw [Nat.add_mul]
      omega
    · exact Nat.le_trans (ihb d hd) (Nat.mul_le_mul (by omega) (by omega))
  | star a iha =>
    intro d hd
    simp only [Ex.pds, List.mem_map] at hd
    obtain ⟨y, hy, rfl⟩ := hd
    have h1 := iha y hy
    have h2 := thn'_letters y (.star a)
    simp only [Ex.dep, Ex.letters] at h2 ⊢
    rw [Nat.mul_add a.letters]
    omega
theorem subsl_le {U l : List Ex} (h : l ∈ subsl U) : l.length ≤ U.length := by
  induction U generalizing l with
  | nil => simp [subsl] at h; subst h; simp
  | cons u U ih =>
    simp only [subsl, List.mem_append, List.mem_map] at h
    rcases h with h | ⟨l', h, rfl⟩
    · have := ih h; simp; omega
    · have := ih h; simp; omega
structure Mild (E : Ex) : Prop where
  can : E.can
  let_ : E.letters ≤ 10
  dp : E.dep ≤ 1000
  wt : E.nm.length ≤ 2 ^ 44
theorem Mild.uni {E d : Ex} (h : Mild E) (hd : d ∈ uniE E) : d.can ∧ d.letters ≤ 20000 ∧ d.nm.length ≤ 2 ^ 60 := by
  have hw := h.wt
  have hl := h.let_
  have hp := h.dp
  rcases ((uniE_ok h.can).2 d).1 hd with rfl | h1
  · exact ⟨h.can, by omega, by omega⟩
  · refine ⟨can_pds h.can d h1, ?_, ?_⟩
    · have h2 := pds_let d h1
      have h3 : E.letters * (E.dep + 1) ≤ 10 * 1001 := Nat.mul_le_mul hl (by omega)
      omega
    · have h2 := pds_len d h1
      have h3 : E.nm.length * (E.dep + 1) ≤ 2 ^ 44 * 1001 := Nat.mul_le_mul hw (by omega)
      omega
theorem StE.len {E : Ex} {r : List Ex} (hE : Mild E) (h : StE E r) : r.length ≤ 16 := by
  have h1 := subsl_le (subsl_of (uniE_ok hE.can).1 h.srt h.uni)
  have h2 := uniE_len E
  have := hE.let_
  omega
theorem StE.asks {E : Ex} {r : List Ex} (hE : Mild E) (h : StE E r) (c : Nat) : r.length ≤ 16 ∧ (∀ x ∈ r, x.letters ≤ 20000) ∧ ∀ x ∈ r, ∀ d ∈ x.behind c, d.can ∧ d.nm.length ≤ 2 ^ 60 := by
  refine ⟨h.len hE, fun x hx => (hE.uni (h.uni x hx)).2.1, fun x hx d hd => ?_⟩
  have hs := h.step hE.can c
  have hm : d ∈ stepE r c := ((stepE_ok c (h.can hE.can)).2 d).2 ⟨x, hx, hd⟩
  have := hE.uni (hs.uni d hm)
  exact ⟨this.1, this.2.2⟩
theorem mild_of {E : Ex} {p : Pat} {k : Nat} {l : List Nat} (hc : E.can) (hlt : E.letters ≤ p.size) (hw : E.nm.length ≤ p.wt) (hd : E.dep ≤ p.dp) (hP : PatT (AtomT k) l p) (hl : l.length ≤ 40) (hs : p.size ≤ 10) : Mild E := by
  obtain ⟨h1, h2⟩ := pat_wt (atom_wt k) hP
  have h3 : 2 ^ l.length ≤ 2 ^ 40 := Nat.pow_le_pow_right (by omega) hl
  refine ⟨hc, by omega, by omega, ?_⟩
  have e1 : (2 : Nat) ^ 44 = 16 * 2 ^ 40 := by decide
  omega
end Go.Proofs.YtpngikmcjkjdaaaGreatDoor
namespace Go.Proofs.YtpngikmcjkjdaaaGreatDoor
open Go.RowKit
set_option linter.unusedVariables false
set_option linter.unusedSimpArgs false
theorem Tryz.infoRest : (Tryz.prog.info? 146).map (fun i => (i.zero, i.size, i.bytes)) = some (some (.agg #[.slice none 0 0, .slice none 0 0]), 2, 48) := by kernel_rfl
def TabPost (E : Ex) (w : World) (r : Ending) (w' : World) : Prop := ∃ (Z : Lay) (ps : List Nat), PRel (goodE E) (sucE E) ps (8 * ps.length) ∧ r = .returned (.agg #[.slice (some ⟨Z.ba, Z.oa, none⟩) ps.length Z.ca, .slice (some ⟨Z.bn, Z.on, none⟩) ps.length Z.cn]) ∧ TabAt w' Z (tabE E ps) ∧ Z.From w.heap.size ps.length ∧ Below w.heap.size w w'
theorem st_cell {w : World} {base a n cap : Nat} {D : Nat → List Ex} {EO NO : Nat → Option Addr} {EC NC : Nat → Nat} (h : w.ownsRow base 146 2 (.slice (some ⟨a, 0, none⟩) n cap) n (stcells D EO NO EC NC n)) {i : Nat} (hi : i < n) :
    a < w.heap.size ∧ w.cell? ⟨a, i * 2, none⟩ = some (.slice (EO i) (D i).length (EC i)) ∧ w.cell? ⟨a, i * 2 + 1, none⟩ = some (.slice (NO i) (D i).length (NC i)) := by
  obtain ⟨e1, e2⟩ := stcells_at D EO NO EC NC n i hi
  obtain ⟨ao, cp, hv, hc⟩ := ownsRow_shape h
  obtain ⟨g, rfl, hg⟩ := hc (by omega)
  simp only [Value.slice.injEq, Option.some.injEq, Addr.mk.injEq] at hv
  obtain ⟨⟨rfl, _⟩, _⟩ := hv
  have c0 := (hg (i * 2) (by omega)).trans e1
  have c1 := (hg (i * 2 + 1) (by omega)).trans e2
  exact ⟨lt_of_cell c0, c0, c1⟩
theorem rfind_old {E : Ex} {qs : List Nat} {r p q c : Nat} (hR : PRel (goodE E) (sucE E) qs r) (hp : p < qs.length) (h : decE E (qs.getD p 0) = stepE (decE E q) c) : sucE E q c ∈ qs ∧ qs.idxOf (sucE E q c) = p := by
  have hm := getD_mem qs p hp
  have e : sucE E q c = qs.getD p 0 := by
    unfold sucE
    rw [← h]
    exact (hR.inr _ hm).2
  have hmem : sucE E q c ∈ qs := by rw [e]; exact hm
  refine ⟨hmem, ?_⟩
  have h1 := List.idxOf_lt_length_of_mem hmem
  have h3 : qs[p]'hp = sucE E q c := by rw [e, List.getD_eq_getElem?_getD, List.getElem?_eq_getElem hp]; rfl
  have h4 : qs[qs.idxOf (sucE E q c)]'h1 = sucE E q c := by simp [List.getElem_idxOf]
  exact (List.getElem_inj hR.nd).1 (h4.trans h3.symm)
theorem rfind_new {E : Ex} (hE : E.can) {qs : List Nat} {q c : Nat} (hq : goodE E q) (h : ∀ j, j < qs.length → decE E (qs.getD j 0) ≠ stepE (decE E q) c) : sucE E q c ∉ qs := by
  intro hmem
  have h1 := h _ (List.idxOf_lt_length_of_mem hmem)
  rw [getD_idxOf qs _ hmem, decE_suc hE hq c] at h1
  exact h1 rfl
set_option maxRecDepth 20000 in
set_option maxHeartbeats 16000000 in
theorem rrestTable_ok (E : Ex) (g : Nat) (w : World) (hE : ExAt w g E) (hM : Mild E) : Calls Tryz.prog 72 #[.pointer (some ⟨g, 0, none⟩)] w (TabPost E w) := by
  obtain ⟨i3, hi3, hz3, hz31, hz32⟩ := info_parts Tryz.info3
  obtain ⟨i4, hi4, hz4, hz41, hz42⟩ := info_parts Tryz.info4
  obtain ⟨iR, hiR, hzR, hzR1, hzR2⟩ := info_parts Tryz.infoR
  obtain ⟨iT, hiT, hzT, hzT1, hzT2⟩ := info_parts Tryz.infoRest
  obtain ⟨W, hW⟩ : ∃ W, W = (w.alloc (.cells #[.slice none 0 0, .slice none 0 0] 41)).alloc (.cells #[.slice none 0 0, .slice none 0 0] 146) := ⟨_, rfl⟩
  have BW : Below w.heap.size w W := by rw [hW]; exact ((Below.refl _ _).alloc (Nat.le_refl _) _).alloc (by simp) _
  have hWs : W.heap.size = w.heap.size + 1 + 1 := by rw [hW]; simp
  have d0 : W.heap[w.heap.size]? = some (.cells #[.slice none 0 0, .slice none 0 0] 41 (0, 0)) := by rw [hW]; exact heap_at_old (heap_at_new rfl)
  have d1 : W.heap[w.heap.size + 1]? = some (.cells #[.slice none 0 0, .slice none 0 0] 146 (0, 0)) := by rw [hW]; exact heap_at_new (by simp)
  obtain ⟨x0, x1, _, _⟩ := cell_two d1
  have HC := rwith_ok W none none 0 0 [] g E (RsAt.nil W) (hE.below BW) List.Pairwise.nil (by simp) (by have := hM.wt; omega)
  rw [show insE [] E = [E] from rfl] at HC
  simp only [List.length_nil] at HC
  have HM : Hid (Mild E) := hM
  clear hM hE d1
  go_enter Tryz.func72, Tryz.ntmps72
  go_upto_region 2 with fail
  rw [← hW]
  clear hW
  go_wp2_with fail
  refine HC.mono ?_
  clear HC
  rintro r w3 ⟨eo, ec, no, nc, rfl, hRs, hB3⟩
  simp only [List.length_singleton]
  have hs3 := hB3.size
  have P0 : RestMem W W.heap.size (w3.heap.size + 1) ((w3.alloc (.cells #[.slice eo 1 ec, .slice no 1 nc] 146)).alloc (.cells #[.slice none 0 0, .slice none 0 0] 41)) [0].length (fun i => decE E ([0].getD i 0)) (fun _ => eo) (fun _ => no) (fun _ => ec) (fun _ => nc) (.slice (some ⟨w3.heap.size, 0, none⟩) 1 1) (.slice none 0 0) (.slice none 0 0) 0 0 (tabE E [0]).acc (fun _ => 0) (fun _ => 0) (pn (sucE E) [0]) := by
    refine ⟨(hB3.alloc (by omega) _).alloc (by simp; omega) _, ?_, fun i hi => ?_, BuildMem.start (Below.refl _ _) (heap_at_new (by simp)), by omega⟩
    · have h := World.ownsRow_lit (base := W.heap.size) (e := 146) (size := 2) w3 #[.slice eo 1 ec, .slice no 1 nc] 1 (by omega) (by decide) rfl
      exact h.alloc (.cells #[.slice none 0 0, .slice none 0 0] 41)
    · have hi0 : i = 0 := by simpa using hi
      subst hi0
      exact hRs.below (((Below.refl _ _).alloc (Nat.le_refl _) _).alloc (by simp) _)
  have hbig : ∀ qs r, PRel (goodE E) (sucE E) qs r → qs.length ≤ 2049 := fun qs r h => boundE HM.out.let_ h
  clear hRs
  go_wp2_with fail
  go_loopw [4, 6, 7, 8, 9, 10, 11, 12] (fun vs k' _ _ _ _ _ _ wr => ∃ (k : Nat) (ps : List Nat) (EO NO : Nat → Option Addr) (EC NC : Nat → Nat) (va vn : Value) (R C : Nat → Nat), k ≤ ps.length ∧ k' = .int .i64 (k : Int) ∧ PRel (goodE E) (sucE E) ps (8 * k) ∧ RestMem W W.heap.size (w3.heap.size + 1) wr ps.length (fun i => decE E (ps.getD i 0)) EO NO EC NC vs va vn k k (tabE E ps).acc R C (pn (sucE E) ps))
    (fun _ k' _ _ _ _ _ _ _ => 2049 - (intOf k').toNat)
  case atStart => exact ⟨0, [0], _, _, _, _, _, _, _, _, by simp, rfl, PRel.start (goodE_zero E), P0⟩
  case round =>
    obtain ⟨k, ps, EO, NO, EC, NC, va, vn, R, C, hk, rfl, hR, hP⟩ := hrel
    clear P0
    have hbd := hbig _ _ hR
    have hlen := hR.len
    have hbw : Below w.heap.size w wr := BW.trans (hP.blw.mono (by omega))
    obtain ⟨y0, y1, z0, z1⟩ := cell_two hP.bm.two.blk
    obtain ⟨ap, cp, rfl, hap⟩ := ownsRow_shape hP.own
    obtain ⟨gp, rfl, _⟩ := hap (by omega)
    have hszs := hP.siz
    clear hap
    by_cases hlt : k < ps.length
    · obtain ⟨hgp, c0, c1⟩ := st_cell hP.own hlt
      have hk14 : (k : Int) < (ps.length : Int) := by omega
      obtain ⟨q, HQ⟩ : ∃ x, Hid (ps.getD k 0 = x) := ⟨_, rfl⟩
      have hgq : goodE E q := by rw [← HQ.out]; exact hR.inr _ (getD_mem ps k hlt)
      have HST : Hid (StE E (decE E q)) := decE_st HM.out.can q hgq.1
      have hsk := hP.sts k hlt
      simp only [HQ.out] at c0 c1 hsk
      have HC := raccepts_ok wr (EO k) (NO k) (EC k) (NC k) (decE E q) hsk (by have := HST.out.len HM.out; omega)
      obtain ⟨bb, HBB⟩ : ∃ x, Hid ((decE E q).any Ex.empty = x) := ⟨_, rfl⟩
      obtain ⟨lk, HLK⟩ : ∃ x, Hid ((decE E q).length = x) := ⟨_, rfl⟩
      rw [HBB.out] at HC
      rw [HLK.out] at HC c0 c1
      have HAK : Hid ((tabE E ps).acc k = bb) := by
        unfold Hid
        show accE (decE E (ps.getD k 0)) = bb
        rw [HQ.out]; exact HBB.out
      have HP : Hid (RestMem W W.heap.size (w3.heap.size + 1) wr ps.length (fun i => decE E (ps.getD i 0)) EO NO EC NC (.slice (some ⟨gp, 0, none⟩) ps.length cp) va vn k k (tabE E ps).acc R C (pn (sucE E) ps)) := hP
      have HR : Hid (PRel (goodE E) (sucE E) ps (8 * k)) := hR
      clear hP hR hsk y0 y1 z0 z1
      have HBIG : Hid (∀ qs r, PRel (goodE E) (sucE E) qs r → qs.length ≤ 2049) := hbig
      have HGQ : Hid (goodE E q) := hgq
      have HWS : Hid (W.heap.size = w.heap.size + 1 + 1) := hWs
      obtain ⟨eok, HEOK⟩ : ∃ x, Hid (EO k = x) := ⟨_, rfl⟩
      obtain ⟨nok, HNOK⟩ : ∃ x, Hid (NO k = x) := ⟨_, rfl⟩
      obtain ⟨eck, HECK⟩ : ∃ x, Hid (EC k = x) := ⟨_, rfl⟩
      obtain ⟨nck, HNCK⟩ : ∃ x, Hid (NC k = x) := ⟨_, rfl⟩
      rw [HEOK.out, HECK.out] at c0
      rw [HNOK.out, HNCK.out] at c1
      rw [HEOK.out, HECK.out, HNOK.out, HNCK.out] at HC
      clear hbig hgq hWs
      obtain ⟨o2, hko⟩ : ∃ x, k * 2 = x := ⟨_, rfl⟩
      rw [hko] at c0 c1
      go_wp2_with fail
      refine HC.mono ?_
      clear HC
      rintro r w5 ⟨rfl, hB5⟩
      have hs5 := hB5.size
      have hP5 := HP.out.below hB5
      obtain ⟨y0, y1, z0, z1⟩ := cell_two hP5.bm.two.blk
      have HBa : Hid (RestMem W W.heap.size (w3.heap.size + 1) (w5.alloc (.cells #[.bool bb] 4)) ps.length (fun i => decE E (ps.getD i 0)) EO NO EC NC (.slice (some ⟨gp, 0, none⟩) ps.length cp) va vn k k (tabE E ps).acc R C (pn (sucE E) ps)) := hP5.below ((Below.refl _ _).alloc (Nat.le_refl _) _)
      have hna := HBa.out.bm.two.own0
      clear hP5 hB5 c0 c1 hbw
      go_upto_region 8 with fail
      go_cut [] (fun wc => ∃ va', Hid (RestMem W W.heap.size (w3.heap.size + 1) wc ps.length (fun i => decE E (ps.getD i 0)) EO NO EC NC (.slice (some ⟨gp, 0, none⟩) ps.length cp) va' vn (k + 1) k (tabE E ps).acc R C (pn (sucE E) ps)))
      case first =>
        go_wp2_with (at_builtin; refine wpList_append_fresh _ rfl _ _ 38 rfl ((w3.heap.size + 1) + 1) 4 i4 (.bool false) 1 1 Tryz.underlying38 hi4 hz4 hz41 hz42 rfl (by decide) va k (acells (tabE E ps).acc k) rfl hna ⟨w5.heap.size, 0, none⟩ 1 1 [.bool bb] rfl rfl (cell_one_new _ _ _) (by intro u hu; simp at hu; subst hu; rfl) (by decide) (by unfold maxLen; omega) (by omega) (by simp; omega) ?_; intro g' cap' w6 hown hgr hfr; obtain ⟨f0, f1, f2, f3⟩ := cell_two (HBa.out.bm.two.grown0 hgr); have HF : Hid (RestMem W W.heap.size (w3.heap.size + 1) (w6.setCell ⟨w3.heap.size + 1, 0, none⟩ (.slice (some ⟨g', 0, none⟩) (k + 1) cap')) ps.length (fun i => decE E (ps.getD i 0)) EO NO EC NC (.slice (some ⟨gp, 0, none⟩) ps.length cp) (.slice (some ⟨g', 0, none⟩) (k + 1) cap') vn (k + 1) k (tabE E ps).acc R C (pn (sucE E) ps)) := (HBa.out.acc (by rw [HAK.out]; exact hown) hgr hfr); clear hown hgr hfr)
        go_meet
        exact ⟨_, HF⟩
      case rest =>
        obtain ⟨va', HP6⟩ := hcut
        clear HBa hna y0 y1 z0 z1 HP
        have R0 : Hid (RestRow W W.heap.size (w3.heap.size + 1) wc ps.length (fun i => decE E (ps.getD i 0)) EO NO EC NC (.slice (some ⟨gp, 0, none⟩) ps.length cp) va' vn (.slice none 0 0) (k + 1) k 0 (tabE E ps).acc R C (pn (sucE E) ps)) := HP6.out.row0
        clear HP6
        go_wp2_with fail
        go_loopw [4, 8, 9, 10, 11, 12] (fun vs vr c' _ _ _ wr => ∃ (c : Nat) (qs : List Nat) (EO NO : Nat → Option Addr) (EC NC : Nat → Nat), c ≤ 8 ∧ c' = .int .i64 (c : Int) ∧ k < qs.length ∧ Hid (qs.getD k 0 = q) ∧ Hid (PRel (goodE E) (sucE E) qs (8 * k + c)) ∧ RestRow W W.heap.size (w3.heap.size + 1) wr qs.length (fun i => decE E (qs.getD i 0)) EO NO EC NC vs va' vn vr (k + 1) k c (tabE E qs).acc R C (pn (sucE E) qs))
          (fun _ _ c' _ _ _ _ => 8 - (intOf c').toNat)
        case atStart => exact ⟨0, ps, EO, NO, EC, NC, by omega, rfl, hlt, HQ, HR, R0.out⟩
        case round =>
          clear R0 HR HQ hlt hbd hlen hszs HAK HBB hk14 hgp HLK HEOK HNOK HECK HNCK hko hk
          obtain ⟨c, qs, EO, NO, EC, NC, hc, rfl, hlt, HQ, HR, hP⟩ := hrel
          have hbd := HBIG.out _ _ HR.out
          have hlen := HR.out.len
          obtain ⟨ap, cp, rfl, hap⟩ := ownsRow_shape hP.mem.own
          obtain ⟨gq, rfl, _⟩ := hap (by omega)
          clear hap
          have hszs := hP.mem.siz
          obtain ⟨ar, cr, rfl, har⟩ := ownsRow_shape hP.row
          by_cases hl8 : c < 8
          · obtain ⟨hgq2, c0, c1⟩ := st_cell hP.mem.own hlt
            have hk14 : (k : Int) < (qs.length : Int) := by omega
            have hc8 : (c : Int) < 8 := by omega
            have hsk := hP.mem.sts k hlt
            simp only [HQ.out] at c0 c1 hsk
            obtain ⟨ha1, ha2, ha3⟩ := HST.out.asks HM.out c
            have HC := rstep_ok wr (EO k) (NO k) (EC k) (NC k) c (decE E q) hsk hl8 ha1 ha2 ha3
            obtain ⟨lk, HLK⟩ : ∃ x, Hid ((decE E q).length = x) := ⟨_, rfl⟩
            obtain ⟨L2, HL2⟩ : ∃ x, Hid (stepE (decE E q) c = x) := ⟨_, rfl⟩
            rw [HL2.out] at HC
            rw [HLK.out] at HC c0 c1
            obtain ⟨eok, HEOK⟩ : ∃ x, Hid (EO k = x) := ⟨_, rfl⟩
            obtain ⟨nok, HNOK⟩ : ∃ x, Hid (NO k = x) := ⟨_, rfl⟩
            obtain ⟨eck, HECK⟩ : ∃ x, Hid (EC k = x) := ⟨_, rfl⟩
            obtain ⟨nck, HNCK⟩ : ∃ x, Hid (NC k = x) := ⟨_, rfl⟩
            rw [HEOK.out, HECK.out] at c0
            rw [HNOK.out, HNCK.out] at c1
            rw [HEOK.out, HECK.out, HNOK.out, HNCK.out] at HC
            obtain ⟨o2, hko⟩ : ∃ x, k * 2 = x := ⟨_, rfl⟩
            rw [hko] at c0 c1
            have HP : Hid (RestRow W W.heap.size (w3.heap.size + 1) wr qs.length (fun i => decE E (qs.getD i 0)) EO NO EC NC (.slice (some ⟨gq, 0, none⟩) qs.length cp) va' vn (.slice ar c cr) (k + 1) k c (tabE E qs).acc R C (pn (sucE E) qs)) := hP
            clear hP hsk ha1 ha2 ha3 har
            go_wp2_with fail
            refine HC.mono ?_
            clear HC c0 c1 hko HEOK HNOK HECK HNCK HLK
            rintro r w5 ⟨eo5, ec5, no5, nc5, rfl, hRs5, hB5⟩
            have hs5 := hB5.size
            obtain ⟨l2, HL2L⟩ : ∃ x, Hid (L2.length = x) := ⟨_, rfl⟩
            rw [HL2L.out]
            obtain ⟨W6, hW6⟩ : ∃ x, x = w5.alloc (.cells #[.slice eo5 l2 ec5, .slice no5 l2 nc5] 146) := ⟨_, rfl⟩
            have k6 : W6.heap[w5.heap.size]? = some (.cells #[.slice eo5 l2 ec5, .slice no5 l2 nc5] 146 (0, 0)) := by rw [hW6]; exact heap_at_new rfl
            have B6 : Below w5.heap.size w5 W6 := by rw [hW6]; exact (Below.refl _ _).alloc (Nat.le_refl _) _
            go_upto_region 14 with fail
            rw [← hW6]
            have HP6 : Hid (RestRow W W.heap.size (w3.heap.size + 1) W6 qs.length (fun i => decE E (qs.getD i 0)) EO NO EC NC (.slice (some ⟨gq, 0, none⟩) qs.length cp) va' vn (.slice ar c cr) (k + 1) k c (tabE E qs).acc R C (pn (sucE E) qs)) := (HP.out.below hB5).below B6
            have HRs6 : Hid (RsAt W6 eo5 ec5 no5 nc5 L2) := hRs5.below B6
            have hs6 := heap_lt k6
            have HGS : Hid (∀ x ∈ qs, goodE E x) := HR.out.inr
            have HST2 : Hid (StE E L2) := by unfold Hid; rw [← HL2.out]; exact HST.out.step HM.out.can c
            clear hW6 hRs5 hB5 B6 HP
            go_wp2_with fail
            go_loopw [11, 12] (fun p' s' wi => ∃ (p : Nat) (b : Bool), p ≤ qs.length ∧ p' = .int .i64 (p : Int) ∧ s' = .bool b ∧ Hid (∀ j, j < p → decE E (qs.getD j 0) ≠ L2) ∧ Hid (b = true → p < qs.length ∧ decE E (qs.getD p 0) = L2) ∧ Below W6.heap.size W6 wi) (fun p' s' _ => 2 * (qs.length - (intOf p').toNat) + (match s' with | .bool true => 0 | _ => 1))
            case atStart => exact ⟨0, false, by omega, rfl, rfl, fun j hj => absurd hj (by omega), fun h => by simp at h, Below.refl _ _⟩
            case round =>
              obtain ⟨p, b, hp, rfl, rfl, HNF, HF, hB7⟩ := hrel
              have hs7 := hB7.size
              cases b
              · by_cases hlp : p < qs.length
                · have hlp2 : (p : Int) < (qs.length : Int) := by omega
                  obtain ⟨r0, r1, _, _⟩ := cell_two ((hB7.block _ hs6).trans k6)
                  have hP7 := HP6.out.below hB7
                  obtain ⟨hgq7, c0, c1⟩ := st_cell hP7.mem.own hlp
                  have hsp := hP7.mem.sts p hlp
                  have hstp : StE E (decE E (qs.getD p 0)) := decE_st HM.out.can _ (HGS.out _ (getD_mem qs p hlp)).1
                  try simp only at c0 c1 hsp
                  have hBd : Below wr.heap.size wr wr.drew := (Below.refl _ _).drew
                  have HC := rsameRest_ok wr.drew (EO p) (NO p) eo5 no5 (EC p) (NC p) ec5 nc5 (decE E (qs.getD p 0)) L2 (hsp.below hBd) ((HRs6.out.below hB7).below hBd) (by have := hstp.len HM.out; omega) (by have := HST2.out.len HM.out; omega)
                  have HSB : Hid (sameB (decE E (qs.getD p 0)) L2 = true ↔ decE E (qs.getD p 0) = L2) := sameB_iff (hstp.can HM.out.can) (HST2.out.can HM.out.can)
                  obtain ⟨Dp, HDP⟩ : ∃ x, Hid (decE E (qs.getD p 0) = x) := ⟨_, rfl⟩
                  rw [HDP.out] at HC HSB c0 c1
                  obtain ⟨lp, HLP⟩ : ∃ x, Hid (Dp.length = x) := ⟨_, rfl⟩
                  rw [HLP.out] at HC c0 c1
                  rw [HL2L.out] at HC
                  obtain ⟨sb, HSBE⟩ : ∃ x, Hid (sameB Dp L2 = x) := ⟨_, rfl⟩
                  rw [HSBE.out] at HC HSB
                  obtain ⟨eok, HEOK⟩ : ∃ x, Hid (EO p = x) := ⟨_, rfl⟩
                  obtain ⟨nok, HNOK⟩ : ∃ x, Hid (NO p = x) := ⟨_, rfl⟩
                  obtain ⟨eck, HECK⟩ : ∃ x, Hid (EC p = x) := ⟨_, rfl⟩
                  obtain ⟨nck, HNCK⟩ : ∃ x, Hid (NC p = x) := ⟨_, rfl⟩
                  rw [HEOK.out, HECK.out] at c0
                  rw [HNOK.out, HNCK.out] at c1
                  rw [HEOK.out, HECK.out, HNOK.out, HNCK.out] at HC
                  obtain ⟨o2, hko⟩ : ∃ x, p * 2 = x := ⟨_, rfl⟩
                  rw [hko] at c0 c1
                  have HB7 : Hid (Below W6.heap.size W6 wr) := hB7
                  clear hP7 hsp hstp hBd hB7
                  go_wp2_with fail
                  go_region_with (go_at_call 117; refine HC.mono ?_; rintro r w8 ⟨rfl, hB8'⟩; have hB8 : Below W6.heap.size W6 w8 := (HB7.out.drew).trans (hB8'.mono hs7); clear hB8' HC)
                  all_goals
                    cases sb
                    · go_wp2_with fail
                      go_roundw
                      case rel => 
                        refine ⟨p + 1, false, by omega, by go_num, rfl, fun j hj => ?_, fun h => by simp at h, hB8⟩
                        by_cases e : j = p
                        · subst e; rw [HDP.out]; intro e2; have := HSB.out.2 e2; simp at this
                        · exact HNF.out j (by omega)
                      case measure => simp [intOf]; omega
                    · go_wp2_with fail
                      go_roundw
                      case rel => exact ⟨p, true, by omega, rfl, rfl, HNF.out, fun _ => ⟨hlp, by rw [HDP.out]; exact HSB.out.1 rfl⟩, hB8⟩
                      case measure => simp [intOf]
                · have hpe : p = qs.length := by omega
                  have hlp2 : ¬ (p : Int) < (qs.length : Int) := by omega
                  subst hpe
                  have HN : Hid (sucE E q c ∉ qs) := rfind_new HM.out.can HGQ.out (fun j hj => by rw [HL2.out]; exact HNF.out j hj)
                  obtain ⟨r0, r1, _, _⟩ := cell_two ((hB7.block _ hs6).trans k6)
                  have hpb : ((qs.length : Int) == (qs.length : Int)) = true := by simp
                  have hs8 : w3.heap.size + 1 < wr.heap.size := by have := HP6.out.mem.siz; omega
                  have HSQ : Hid (sucE E (qs.getD ((8 * k + c) / 8) 0) ((8 * k + c) % 8) = sucE E q c) := by
                    unfold Hid; rw [show (8 * k + c) / 8 = k by omega, show (8 * k + c) % 8 = c by omega, HQ.out]
                  have HDN : Hid ((fun i => decE E ((qs ++ [sucE E q c]).getD i 0)) qs.length = L2) := by
                    unfold Hid
                    show decE E ((qs ++ [sucE E q c]).getD qs.length 0) = L2
                    rw [show (qs ++ [sucE E q c]).getD qs.length 0 = sucE E q c by simp [List.getD_eq_getElem?_getD], decE_suc HM.out.can HGQ.out c]
                    exact HL2.out
                  have HPa0 : Hid (RestRow W W.heap.size (w3.heap.size + 1) (wr.alloc (.cells #[.slice eo5 l2 ec5, .slice no5 l2 nc5] 146)) qs.length (fun i => decE E ((qs ++ [sucE E q c]).getD i 0)) EO NO EC NC (.slice (some ⟨gq, 0, none⟩) qs.length cp) va' vn (.slice ar c cr) (k + 1) k c (tabE E (qs ++ [sucE E q c])).acc R C (pn (sucE E) (qs ++ [sucE E q c]))) := by
                    refine ((HP6.out.below hB7).below ((Below.refl _ _).alloc (Nat.le_refl _) _)).congr (fun i hi => ?_) (fun i hi => ?_) (fun i d hi hd => (pn_new HR.out i d hd (by omega)).symm) (fun d hd => (pn_new HR.out k d (by omega) (by omega)).symm)
                    · show decE E (qs.getD i 0) = decE E ((qs ++ [sucE E q c]).getD i 0)
                      rw [getD_app _ _ _ hi]
                    · show accE (decE E (qs.getD i 0)) = accE (decE E ((qs ++ [sucE E q c]).getD i 0))
                      rw [getD_app _ _ _ (by omega)]
                  have hna0 := HPa0.out.mem.own
                  have HNS : Hid (RsAt (wr.alloc (.cells #[.slice eo5 l2 ec5, .slice no5 l2 nc5] 146)) eo5 ec5 no5 nc5 ((fun i => decE E ((qs ++ [sucE E q c]).getD i 0)) qs.length)) := by
                    unfold Hid
                    rw [HDN.out]
                    exact (HRs6.out.below hB7).below ((Below.refl _ _).alloc (Nat.le_refl _) _)
                  clear HF HNF hB7
                  go_upto_region 22 with (at_builtin; refine wpList_append_fresh _ rfl _ _ 148 rfl W.heap.size 146 iT (.agg #[.slice none 0 0, .slice none 0 0]) 2 48 Tryz.underlying148 hiT hzT hzT1 hzT2 rfl (by decide) (.slice (some ⟨gq, 0, none⟩) qs.length cp) qs.length (stcells (fun i => decE E ((qs ++ [sucE E q c]).getD i 0)) EO NO EC NC qs.length) rfl hna0 ⟨wr.heap.size, 0, none⟩ 1 1 [.slice eo5 l2 ec5, .slice no5 l2 nc5] rfl rfl (cells_new _ _ _) (by intro u hu; simp at hu; rcases hu with rfl | rfl <;> rfl) (by decide) (by unfold maxLen; omega) (by omega) (by simp; omega) ?_; intro g6 cap6 w9 hown hgr hfr; have HO6 : Hid (w9.ownsRow W.heap.size 146 2 (.slice (some ⟨g6, 0, none⟩) (qs.length + 1) cap6) (qs.length + 1) (stcells (fun i => decE E ((qs ++ [sucE E q c]).getD i 0)) EO NO EC NC qs.length ++ [.slice eo5 l2 ec5, .slice no5 l2 nc5])) := hown; have HG6 : Hid ((wr.alloc (.cells #[.slice eo5 l2 ec5, .slice no5 l2 nc5] 146)).grownBy w9 (Value.slice (some ⟨gq, 0, none⟩) qs.length cp).ownBlock) := hgr; clear hown hgr hfr)
                  have hP9 := HPa0.out.state HNS.out (by have e : decE E ((qs ++ [sucE E q c]).getD qs.length 0) = L2 := HDN.out; rw [e, HL2L.out]; exact HO6.out) HG6.out
                  have hs9 := hP9.mem.siz
                  have HPa : Hid (RestRow W W.heap.size (w3.heap.size + 1) (w9.alloc (.cells #[.int .i64 (qs.length : Int)] 3)) (qs.length + 1) (fun i => decE E ((qs ++ [sucE E q c]).getD i 0)) (fun i => if i = qs.length then eo5 else EO i) (fun i => if i = qs.length then no5 else NO i) (fun i => if i = qs.length then ec5 else EC i) (fun i => if i = qs.length then nc5 else NC i) (.slice (some ⟨g6, 0, none⟩) (qs.length + 1) cap6) va' vn (.slice ar c cr) (k + 1) k c (tabE E (qs ++ [sucE E q c])).acc R C (pn (sucE E) (qs ++ [sucE E q c]))) := hP9.below ((Below.refl _ _).alloc (Nat.le_refl _) _)
                  have hna := HPa.out.row
                  clear hP9 hna0 HPa0 HNS HO6 HG6 r0 r1
                  go_wp2_with (at_builtin; refine wpList_append_fresh _ rfl _ _ 24 rfl ((w3.heap.size + 1) + 1) 3 i3 (.int .i64 0) 1 8 Tryz.underlying24 hi3 hz3 hz31 hz32 rfl (by decide) (.slice ar c cr) c (icells (pn (sucE E) (qs ++ [sucE E q c]) k) c) rfl hna ⟨w9.heap.size, 0, none⟩ 1 1 [.int .i64 (qs.length : Int)] rfl rfl (cell_one_new _ _ _) (by intro u hu; simp at hu; subst hu; rfl) (by decide) (by unfold maxLen; omega) (by omega) (by simp; omega) ?_; intro g' cap' w10 hown hgr hfr; have HO : Hid (w10.ownsRow ((w3.heap.size + 1) + 1) 3 1 (.slice (some ⟨g', 0, none⟩) (c + 1) cap') (c + 1) (icells (pn (sucE E) (qs ++ [sucE E q c]) k) c ++ [.int .i64 (qs.length : Int)])) := hown; have HG : Hid ((w9.alloc (.cells #[.int .i64 (qs.length : Int)] 3)).grownBy w10 (Value.slice ar c cr).ownBlock) := hgr; have HFR : Hid ((Value.slice ar c cr).ownBlock = some g' ∨ g' = (w9.alloc (.cells #[.int .i64 (qs.length : Int)] 3)).heap.size) := hfr; clear hown hgr hfr)
                  go_roundw
                  case rel =>
                    have hnew := HR.out.new (by omega) (by rw [HSQ.out]; exact HN.out) (by rw [HSQ.out]; exact goodE_suc HM.out.can HGQ.out c)
                    rw [HSQ.out] at hnew
                    have hpnew : pn (sucE E) (qs ++ [sucE E q c]) k c = qs.length := by
                      simp only [pn]
                      rw [getD_app _ _ _ hlt, HQ.out, List.idxOf_append, if_neg HN.out]; simp
                    have ho := HO.out
                    rw [← hpnew] at ho
                    have hfin := HPa.out.put ho HG.out HFR.out
                    refine ⟨c + 1, (qs ++ [sucE E q c]), (fun i => if i = qs.length then eo5 else EO i), (fun i => if i = qs.length then no5 else NO i), (fun i => if i = qs.length then ec5 else EC i), (fun i => if i = qs.length then nc5 else NC i), by omega, by go_num, by simp; omega, by unfold Hid; rw [getD_app _ _ _ hlt]; exact HQ.out, hnew, ?_⟩
                    rw [show (qs ++ [sucE E q c]).length = qs.length + 1 by simp]
                    exact hfin
                  case measure => simp [intOf]; omega
              · obtain ⟨hlp, hfd⟩ := HF.out rfl
                have hlp2 : (p : Int) < (qs.length : Int) := by omega
                have hpb : ((p : Int) == (qs.length : Int)) = false := by rw [beq_eq_false_iff_ne]; omega
                have HOL : Hid (sucE E q c ∈ qs ∧ qs.idxOf (sucE E q c) = p) := rfind_old HR.out hlp (by rw [HL2.out]; exact hfd)
                have HSQ : Hid (sucE E (qs.getD ((8 * k + c) / 8) 0) ((8 * k + c) % 8) = sucE E q c) := by
                  unfold Hid; rw [show (8 * k + c) / 8 = k by omega, show (8 * k + c) % 8 = c by omega, HQ.out]
                have HPa : Hid (RestRow W W.heap.size (w3.heap.size + 1) (wr.alloc (.cells #[.int .i64 (p : Int)] 3)) qs.length (fun i => decE E (qs.getD i 0)) EO NO EC NC (.slice (some ⟨gq, 0, none⟩) qs.length cp) va' vn (.slice ar c cr) (k + 1) k c (tabE E qs).acc R C (pn (sucE E) qs)) := (HP6.out.below hB7).below ((Below.refl _ _).alloc (Nat.le_refl _) _)
                have hna := HPa.out.row
                have hs8 : w3.heap.size + 1 < wr.heap.size := by have := HP6.out.mem.siz; omega
                clear hfd HF HNF hB7
                go_wp2_with (at_builtin; refine wpList_append_fresh _ rfl _ _ 24 rfl ((w3.heap.size + 1) + 1) 3 i3 (.int .i64 0) 1 8 Tryz.underlying24 hi3 hz3 hz31 hz32 rfl (by decide) (.slice ar c cr) c (icells (pn (sucE E) qs k) c) rfl hna ⟨wr.heap.size, 0, none⟩ 1 1 [.int .i64 (p : Int)] rfl rfl (cell_one_new _ _ _) (by intro u hu; simp at hu; subst hu; rfl) (by decide) (by unfold maxLen; omega) (by omega) (by simp; omega) ?_; intro g' cap' w9 hown hgr hfr; have HO : Hid (w9.ownsRow ((w3.heap.size + 1) + 1) 3 1 (.slice (some ⟨g', 0, none⟩) (c + 1) cap') (c + 1) (icells (pn (sucE E) qs k) c ++ [.int .i64 (p : Int)])) := hown; have HG : Hid ((wr.alloc (.cells #[.int .i64 (p : Int)] 3)).grownBy w9 (Value.slice ar c cr).ownBlock) := hgr; have HFR : Hid ((Value.slice ar c cr).ownBlock = some g' ∨ g' = (wr.alloc (.cells #[.int .i64 (p : Int)] 3)).heap.size) := hfr; clear hown hgr hfr)
                go_roundw
                case rel =>
                  have hpnc : pn (sucE E) qs k c = p := by
                    unfold pn; rw [HQ.out]; exact HOL.out.2
                  have ho := HO.out
                  rw [← hpnc] at ho
                  exact ⟨c + 1, qs, EO, NO, EC, NC, by omega, by go_num, hlt, HQ, HR.out.old (by omega) (by rw [HSQ.out]; exact HOL.out.1), HPa.out.put ho HG.out HFR.out⟩
                case measure => simp [intOf]; omega
          · have he : c = 8 := by omega
            subst he
            obtain ⟨gr, rfl, _⟩ := har (by omega)
            obtain ⟨y0, y1, _, _⟩ := cell_two hP.mem.bm.two.blk
            have HBi : Hid (RestRow W W.heap.size (w3.heap.size + 1) (wr.alloc (.cells #[.slice (some ⟨gr, 0, none⟩) 8 cr] 24)) qs.length (fun i => decE E (qs.getD i 0)) EO NO EC NC (.slice (some ⟨gq, 0, none⟩) qs.length cp) va' vn (.slice (some ⟨gr, 0, none⟩) 8 cr) (k + 1) k 8 (tabE E qs).acc R C (pn (sucE E) qs)) := hP.below ((Below.refl _ _).alloc (Nat.le_refl _) _)
            have hna1 := HBi.out.mem.bm.two.own1
            clear hP har
            go_wp2_with (at_builtin; refine wpList_append_fresh _ rfl _ _ 39 rfl ((w3.heap.size + 1) + 1) 24 iR (.slice none 0 0) 1 24 Tryz.underlying39 hiR hzR hzR1 hzR2 rfl (by decide) vn k (scells R C k) rfl hna1 ⟨wr.heap.size, 0, none⟩ 1 1 [.slice (some ⟨gr, 0, none⟩) 8 cr] rfl rfl (cell_one_new _ _ _) (by intro u hu; simp at hu; subst hu; rfl) (by decide) (by unfold maxLen; omega) (by omega) (by simp; omega) ?_; intro g' cap' w6 hown hgr hfr; obtain ⟨f0, f1, f2, f3⟩ := cell_two (HBi.out.mem.bm.two.grown1 hgr); have HF : Hid (RestMem W W.heap.size (w3.heap.size + 1) (w6.setCell ⟨w3.heap.size + 1, 1, none⟩ (.slice (some ⟨g', 0, none⟩) (k + 1) cap')) qs.length (fun i => decE E (qs.getD i 0)) EO NO EC NC (.slice (some ⟨gq, 0, none⟩) qs.length cp) va' (.slice (some ⟨g', 0, none⟩) (k + 1) cap') (k + 1) (k + 1) (tabE E qs).acc (fun i => if i = k then gr else R i) (fun i => if i = k then cr else C i) (pn (sucE E) qs)) := HBi.out.done hown hgr hfr; clear hown hgr hfr)
            go_roundw
            case rel =>
              exact ⟨k + 1, qs, EO, NO, EC, NC, _, _, _, _, by omega, by go_num, by rw [show 8 * (k + 1) = 8 * k + 8 by omega]; exact HR.out, HF.out⟩
            case measure => simp [intOf]; omega
    · have he : k = ps.length := by omega
      subst he
      obtain ⟨Z, rfl, rfl, hT, hFr⟩ := hP.bm.done (N := tabE E ps) (by omega) rfl (fun i hi => rfl) (fun i c hi hc => rfl)
      have k1 := (hP.blw.block _ (by omega)).trans d0
      obtain ⟨r0, r1, r2, r3⟩ := cell_two k1
      obtain ⟨s0, s1, s2, s3⟩ := cell_two (two_set0 (u := .slice (some ⟨Z.ba, Z.oa, none⟩) ps.length Z.ca) k1)
      obtain ⟨t0, t1, t2, t3⟩ := cell_two (two_set1 (u := .slice (some ⟨Z.bn, Z.on, none⟩) ps.length Z.cn) (two_set0 (u := .slice (some ⟨Z.ba, Z.oa, none⟩) ps.length Z.ca) k1))
      have HPO : Hid (TabPost E w (.returned (.agg #[.slice (some ⟨Z.ba, Z.oa, none⟩) ps.length Z.ca, .slice (some ⟨Z.bn, Z.on, none⟩) ps.length Z.cn])) ((wr.setCell ⟨w.heap.size, 0, none⟩ (.slice (some ⟨Z.ba, Z.oa, none⟩) ps.length Z.ca)).setCell ⟨w.heap.size, 1, none⟩ (.slice (some ⟨Z.bn, Z.on, none⟩) ps.length Z.cn))) :=
        ⟨Z, ps, hR, rfl, hT.res hFr (b := w.heap.size) (by omega) _ _, hFr.mono (by omega), below_res hbw (b := w.heap.size) (by omega) _ _⟩
      clear hP hT hFr hR k1 hbig hWs
      go_wp2_with fail
      refine bodyPost_ret (v := .agg #[.slice (some ⟨Z.ba, Z.oa, none⟩) ps.length Z.ca, .slice (some ⟨Z.bn, Z.on, none⟩) ps.length Z.cn]) (by simp [results, Tryz.results72, go_sem, t0, t1]) rfl ?_
      exact HPO.out
end Go.Proofs.YtpngikmcjkjdaaaGreatDoor
namespace Go.Proofs.YtpngikmcjkjdaaaGreatDoor
open Go.RowKit
set_option linter.unusedVariables false
theorem rowIs_ne {w : World} {b b' t t' n n' : Nat} {f f' : Nat → Value} (h : w.rowIs b t n f) (h' : w.rowIs b' t' n' f') (ht : t ≠ t') : b ≠ b' := by
  obtain ⟨c, hb, _, _⟩ := h
  obtain ⟨c', hb', _, _⟩ := h'
  intro e
  subst e
  rw [hb] at hb'
  simp only [Option.some.injEq, Obj.cells.injEq] at hb'
  exact ht hb'.2.1
structure MatTo (w : World) (B g n k : Nat) (rb : Nat → Nat) (D : Nat → Nat → Bool) : Prop where
  top : w.rowIs g 38 n (fun i => if i < k then .slice (some ⟨rb i, 0, none⟩) n n else .slice none 0 0)
  row : ∀ i, i < k → w.rowIs (rb i) 4 n (fun j => .bool (D i j))
  inj : ∀ i j, i < k → j < k → i ≠ j → rb i ≠ rb j
  lg : B ≤ g
  lr : ∀ i, i < k → B ≤ rb i
theorem MatTo.below {w w' : World} {B g n k : Nat} {rb : Nat → Nat} {D : Nat → Nat → Bool} (h : MatTo w B g n k rb D) (hb : Below w.heap.size w w') : MatTo w' B g n k rb D :=
  ⟨h.top.of_block (hb.block _ h.top.lt), fun i hi => (h.row i hi).of_block (hb.block _ (h.row i hi).lt), h.inj, h.lg, h.lr⟩
theorem MatTo.congr {w : World} {B g n k : Nat} {rb : Nat → Nat} {D D' : Nat → Nat → Bool} (h : MatTo w B g n k rb D) (e : ∀ i j, i < k → j < n → D i j = D' i j) : MatTo w B g n k rb D' :=
  ⟨h.top, fun i hi => (h.row i hi).congr (fun j hj => by rw [e i j hi hj]), h.inj, h.lg, h.lr⟩
def upd (D : Nat → Nat → Bool) (i j : Nat) (v : Bool) : Nat → Nat → Bool := fun x y => if x = i ∧ y = j then v else D x y
theorem MatTo.set {w : World} {B g n k : Nat} {rb : Nat → Nat} {D : Nat → Nat → Bool} (h : MatTo w B g n k rb D) {i j : Nat} (hi : i < k) (v : Bool) : MatTo (w.setCell ⟨rb i, j, none⟩ (.bool v)) B g n k rb (upd D i j v) := by
  refine ⟨h.top.setOther (rowIs_ne h.top (h.row i hi) (by decide)) _, fun x hx => ?_, h.inj, h.lg, h.lr⟩
  by_cases e : x = i
  · subst e
    refine ((h.row x hi).set j _).congr (fun y _ => ?_)
    by_cases e : y = j <;> simp [upd, e]
  · refine ((h.row x hx).setOther (h.inj x i hx hi e) _).congr (fun y _ => ?_)
    simp [upd, e]
theorem MatTo.other {w : World} {B g n k H m : Nat} {rb : Nat → Nat} {D : Nat → Nat → Bool} {f : Nat → Value} (h : MatTo w B g n k rb D) (hr : w.rowIs H 4 m f) (hne : ∀ i, i < k → rb i ≠ H) (j : Nat) (v : Value) : MatTo (w.setCell ⟨H, j, none⟩ v) B g n k rb D :=
  ⟨h.top.setOther (rowIs_ne h.top hr (by decide)) _, fun x hx => (h.row x hx).setOther (hne x hx) _, h.inj, h.lg, h.lr⟩
theorem MatTo.next {w : World} {B g n k H : Nat} {rb : Nat → Nat} {D : Nat → Nat → Bool} {f : Nat → Bool} (h : MatTo w B g n k rb D) (hr : w.rowIs H 4 n (fun j => .bool (f j))) (hne : ∀ i, i < k → rb i ≠ H) (hH : B ≤ H) :
    MatTo (w.setCell ⟨g, k, none⟩ (.slice (some ⟨H, 0, none⟩) n n)) B g n (k + 1) (fun i => if i = k then H else rb i) (fun i j => if i = k then f j else D i j) := by
  refine ⟨(h.top.set k _).congr (fun x _ => ?_), fun x hx => ?_, fun x y hx hy hxy => ?_, h.lg, fun x hx => ?_⟩
  · by_cases e : x = k
    · subst e; simp
    · simp only [if_neg e]
      by_cases h' : x < k
      · rw [if_pos h', if_pos (by omega)]
      · rw [if_neg h', if_neg (by omega)]
  · by_cases e : x = k
    · subst e; simp only [if_true]; exact hr.setOther (fun e => rowIs_ne h.top hr (by decide) e.symm) _
    · simp only [if_neg e]; exact (h.row x (by omega)).setOther (fun e' => rowIs_ne h.top (h.row x (by omega)) (by decide) e'.symm) _
  · by_cases e : x = k
    · subst e; simp only [if_true, if_neg (show y ≠ x from fun e => hxy e.symm)]; exact fun e' => hne y (by omega) e'.symm
    · by_cases e2 : y = k
      · subst e2; simp only [if_neg e, if_true]; exact hne x (by omega)
      · simp only [if_neg e, if_neg e2]; exact h.inj x y (by omega) (by omega) hxy
  · by_cases e : x = k
    · subst e; simp only [if_true]; exact hH
    · simp only [if_neg e]; exact h.lr x (by omega)
def falses (n : Nat) (D : Nat → Nat → Bool) : Nat := ((List.range (n * n)).filter fun q => !D (q / n) (q % n)).length
theorem falses_lt {n : Nat} {D D' : Nat → Nat → Bool} (hle : ∀ i j, i < n → j < n → D i j = true → D' i j = true) {i j : Nat} (hi : i < n) (hj : j < n) (h0 : D i j = false) (h1 : D' i j = true) : falses n D' < falses n D := by
  have key : ∀ (l : List Nat), (∀ q ∈ l, q < n * n) → ((l.filter fun q => !D' (q / n) (q % n)).length ≤ (l.filter fun q => !D (q / n) (q % n)).length) ∧ (i * n + j ∈ l → (l.filter fun q => !D' (q / n) (q % n)).length < (l.filter fun q => !D (q / n) (q % n)).length) := by
    intro l
    induction l with
    | nil => intro _; simp
    | cons q l ih =>
      intro hq
      obtain ⟨a, b⟩ := ih (fun x hx => hq x (by simp [hx]))
      have hqn := hq q (by simp)
      have hn : 0 < n := by omega
      have q1 : q / n < n := Nat.div_lt_of_lt_mul hqn
      have q2 : q % n < n := Nat.mod_lt _ hn
      by_cases e : q = i * n + j
      · have e1 : q / n = i := by rw [e, Nat.mul_comm, Nat.mul_add_div hn, Nat.div_eq_of_lt hj]; omega
        have e2 : q % n = j := by rw [e, Nat.mul_comm, Nat.mul_add_mod, Nat.mod_eq_of_lt hj]
        simp only [List.filter_cons, e1, e2, h0, h1]
        simp
        constructor
        · omega
        · omega
      · have hm := hle _ _ q1 q2
        cases hd : D (q / n) (q % n) with
        | true =>
          simp only [List.filter_cons, hd, hm hd]
          simp
          exact ⟨a, fun h => by
            rcases h with h | h
            · exact absurd h.symm e
            · exact b h⟩
        | false =>
          cases hd' : D' (q / n) (q % n) with
          | true =>
            simp only [List.filter_cons, hd, hd']
            simp
            exact ⟨by omega, fun _ => by omega⟩
          | false =>
            simp only [List.filter_cons, hd, hd']
            simp
            exact ⟨a, fun h => by
              rcases h with h | h
              · exact absurd h.symm e
              · exact b h⟩
  refine (key (List.range (n * n)) (by simp)).2 ?_
  simp only [List.mem_range]
  have : i * n + j < (i + 1) * n := by rw [Nat.add_mul]; omega
  exact Nat.lt_of_lt_of_le this (Nat.mul_le_mul_right n (by omega))
end Go.Proofs.YtpngikmcjkjdaaaGreatDoor
namespace Go.Proofs.YtpngikmcjkjdaaaGreatDoor
open Go.RowKit
set_option linter.unusedVariables false
theorem Tryz.infoB : (Tryz.prog.info? 38).map (fun i => (i.zero, i.size, i.bytes)) = some (some (.slice none 0 0), 1, 24) := by kernel_rfl
theorem LeastPost.wrap {L : List Nat → Bool} {budget bound : Nat} {w w0 w1 : World} {e : Ending} (h : LeastPost L budget bound w0 e w1) (h0 : Below w.heap.size w w0) (hs : w.heap.size ≤ w0.heap.size) :
    ∃ a0 n0 c0 a1 n1 c1 er, e = .returned (.tuple #[.agg #[.slice a0 n0 c0, .slice a1 n1 c1], .int .i64 er]) ∧ Below w.heap.size w w1 ∧ Below w0.heap.size w0 w1 ∧
      ∀ b, w.heap.size ≤ b → b < w0.heap.size → LeastPost L budget bound w e ((w1.setCell ⟨b, 0, none⟩ (.slice a0 n0 c0)).setCell ⟨b, 1, none⟩ (.slice a1 n1 c1)) := by
  obtain ⟨hb, hc⟩ := h
  have hB := h0.trans (hb.mono hs)
  rcases hc with ⟨R, V, hR, hn, rfl, hT, hF, hFr⟩ | ⟨rfl, hlt, hR⟩
  · exact ⟨_, _, _, _, _, _, _, rfl, hB, hb, fun b h1 h2 => ⟨below_res hB h1 _ _, .inl ⟨R, V, hR, hn, rfl, hT.res hF h2 _ _, hF.mono hs, (hFr.set _ _ _).set _ _ _⟩⟩⟩
  · exact ⟨_, _, _, _, _, _, _, rfl, hB, hb, fun b h1 h2 => ⟨below_res hB h1 _ _, .inr ⟨rfl, hlt, hR⟩⟩⟩
theorem LeastPost.congr {L L' : List Nat → Bool} {budget bound : Nat} {w w' : World} {e : Ending} (h : LeastPost L budget bound w e w') (hL : ∀ x, Notes x → L x = L' x) : LeastPost L' budget bound w e w' := by
  obtain ⟨hb, hc⟩ := h
  refine ⟨hb, ?_⟩
  rcases hc with ⟨R, V, hR, hn, he, hT, hF, hFr⟩ | ⟨he, hlt, hR⟩
  · exact .inl ⟨R, V, ⟨hR.num, hR.apart, fun x hx => by rw [hR.lang x hx, hL x hx]⟩, hn, he, hT, hF, hFr⟩
  · exact .inr ⟨he, hlt, fun R' hR' => hR R' ⟨hR'.num, hR'.apart, fun x hx => by rw [hR'.lang x hx, hL x hx]⟩⟩
end Go.Proofs.YtpngikmcjkjdaaaGreatDoor
