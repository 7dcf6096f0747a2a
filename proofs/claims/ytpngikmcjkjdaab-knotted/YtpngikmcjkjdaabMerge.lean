import Derived.Test.YtpngikmcjkjdaabSplit
import Derived.Test.YtpngikmcjkjdaabMoore
import Derived.Deep.OwnRows
import Derived.RegionTactic
import Derived.ChangeAlike
import Derived.Deep.DeepCutAuto
import Derived.BigRegion
namespace Go.Proofs.Ytpngikmcjkjdaab
open Go.RowKit
set_option linter.unusedVariables false

theorem Try.info4 : (Try.prog.info? 4).map (fun i => (i.zero, i.size, i.bytes)) = some (some (.bool false), 1, 1) := by kernel_rfl
theorem Try.infoR : (Try.prog.info? 22).map (fun i => (i.zero, i.size, i.bytes)) = some (some (.slice none 0 0), 1, 24) := by kernel_rfl

/-- The table that is being made. -/
structure MergeAt (B : Nat) (W w : World) (gA gN bT n : Nat) (k : Nat) (A : Nat → Bool) (X : Nat → Nat → Nat) (R : Nat → Nat) : Prop where
  blw : Below (B + 1 + 1) W w
  blk : w.heap[bT]? = some (.cells #[.slice (some ⟨gA, 0, none⟩) n n, .slice (some ⟨gN, 0, none⟩) n n] 30 (0, 0))
  rA : w.rowIs gA 4 n (fun i => if i < k then .bool (A i) else .bool false)
  rN : w.rowIs gN 22 n (fun i => if i < k then .slice (some ⟨R i, 0, none⟩) 8 8 else .slice none 0 0)
  rR : ∀ i, i < k → w.rowIs (R i) 3 8 (fun c => .int .i64 (X i c))
  loA : B + 2 ≤ gA
  loN : B + 2 ≤ gN
  loT : B + 2 ≤ bT
  dAN : gA ≠ gN
  dAT : gA ≠ bT
  dNT : gN ≠ bT
  dR : ∀ i, i < k → R i ≠ gA ∧ R i ≠ gN ∧ R i ≠ bT ∧ B + 2 ≤ R i
  inj : ∀ i j, i < j → j < k → R i ≠ R j

variable {B : Nat} {W w w1 : World} {gA gN bT n k : Nat} {A : Nat → Bool} {X : Nat → Nat → Nat} {R : Nat → Nat}

theorem MergeAt.alloc (h : MergeAt B W w gA gN bT n k A X R) (o : Obj) : MergeAt B W (w.alloc o) gA gN bT n k A X R where
  blw := h.blw.alloc (by have := heap_lt h.blk; have := h.loT; omega) o
  blk := heap_at_old h.blk
  rA := h.rA.alloc o
  rN := h.rN.alloc o
  rR i hi := (h.rR i hi).alloc o
  loA := h.loA
  loN := h.loN
  loT := h.loT
  dAN := h.dAN
  dAT := h.dAT
  dNT := h.dNT
  dR := h.dR
  inj := h.inj
theorem MergeAt.drew (h : MergeAt B W w gA gN bT n k A X R) : MergeAt B W w.drew gA gN bT n k A X R :=
  ⟨h.blw.drew, h.blk, h.rA, h.rN, h.rR, h.loA, h.loN, h.loT, h.dAN, h.dAT, h.dNT, h.dR, h.inj⟩
/-- A store into another block of the call's own. -/
theorem MergeAt.setOther (h : MergeAt B W w gA gN bT n k A X R) {a : Addr} (v : Value) (h0 : B + 2 ≤ a.block) (h1 : a.block ≠ gA) (h2 : a.block ≠ gN) (h3 : a.block ≠ bT) (h4 : ∀ i, i < k → R i ≠ a.block) :
    MergeAt B W (w.setCell a v) gA gN bT n k A X R where
  blw := h.blw.setCell h0 v
  blk := heap_set_other h.blk (fun e => h3 e.symm)
  rA := h.rA.setOther (fun e => h1 e.symm) v
  rN := h.rN.setOther (fun e => h2 e.symm) v
  rR i hi := (h.rR i hi).setOther (h4 i hi) v
  loA := h.loA
  loN := h.loN
  loT := h.loT
  dAN := h.dAN
  dAT := h.dAT
  dNT := h.dNT
  dR := h.dR
  inj := h.inj
/-- A round's end: the state k has its row g. -/
theorem MergeAt.next (h : MergeAt B W w gA gN bT n k A X R) {g : Nat} (hg : w.rowIs g 3 8 (fun c => .int .i64 (X k c))) (hd : g ≠ gA ∧ g ≠ gN ∧ g ≠ bT ∧ B + 2 ≤ g) (hk : k < n) (hne : ∀ i, i < k → R i ≠ g) :
    MergeAt B W ((w.setCell ⟨gA, k, none⟩ (.bool (A k))).setCell ⟨gN, k, none⟩ (.slice (some ⟨g, 0, none⟩) 8 8)) gA gN bT n (k + 1) A X (fun i => if i = k then g else R i) where
  blw := (h.blw.setCell (p := ⟨gA, k, none⟩) h.loA _).setCell (p := ⟨gN, k, none⟩) h.loN _
  blk := heap_set_other (heap_set_other h.blk (fun e => h.dAT e.symm)) (fun e => h.dNT e.symm)
  rA := ((h.rA.set k (.bool (A k))).setOther h.dAN _).congr (fun i hi => by
    by_cases e : i = k
    · subst e; simp
    · simp only [if_neg e]; by_cases h' : i < k
      · rw [if_pos h', if_pos (by omega)]
      · rw [if_neg h', if_neg (by omega)])
  rN := ((h.rN.setOther (a := ⟨gA, k, none⟩) (fun e => h.dAN e.symm) _).set k _).congr (fun i hi => by
    by_cases e : i = k
    · subst e; simp
    · simp only [if_neg e]; by_cases h' : i < k
      · rw [if_pos h', if_pos (by omega)]
      · rw [if_neg h', if_neg (by omega)])
  rR i hi := by
    by_cases e : i = k
    · subst e; simp only [if_true]; exact (hg.setOther hd.1 _).setOther hd.2.1 _
    · simp only [if_neg e]
      have := h.dR i (by omega)
      exact ((h.rR i (by omega)).setOther this.1 _).setOther this.2.1 _
  loA := h.loA
  loN := h.loN
  loT := h.loT
  dAN := h.dAN
  dAT := h.dAT
  dNT := h.dNT
  dR i hi := by
    by_cases e : i = k
    · subst e; simp only [if_true]; exact hd
    · simp only [if_neg e]; exact h.dR i (by omega)
  inj i j hij hj := by
    by_cases e : j = k
    · subst e; simp only [if_true, if_neg (show i ≠ j by omega)]; exact hne i (by omega)
    · simp only [if_neg e, if_neg (show i ≠ k by omega)]; exact h.inj i j hij (by omega)

theorem madeCells_rowIs {w : World} {b t n : Nat} {z : Value} (h : w.heap[b]? = some (.cells (madeCells #[z] n) t (0, 0))) : w.rowIs b t n (fun _ => z) :=
  ⟨_, h, size_madeCells _ _, fun i hi => by simp [madeCells, hi, Nat.mod_one]⟩
theorem MergeAt.start (hb : Below (B + 1 + 1) W w) (hT : w.heap[bT]? = some (.cells #[.slice (some ⟨gA, 0, none⟩) n n, .slice (some ⟨gN, 0, none⟩) n n] 30 (0, 0)))
    (hA : w.heap[gA]? = some (.cells (madeCells #[.bool false] n) 4 (0, 0))) (hN : w.heap[gN]? = some (.cells (madeCells #[.slice none 0 0] n) 22 (0, 0)))
    (h1 : B + 2 ≤ gA) (h2 : B + 2 ≤ gN) (h3 : B + 2 ≤ bT) (h4 : gA ≠ gN) (h5 : gA ≠ bT) (h6 : gN ≠ bT) : MergeAt B W w gA gN bT n 0 A X (fun _ => 0) :=
  ⟨hb, hT, (madeCells_rowIs hA).congr (fun i _ => by simp), (madeCells_rowIs hN).congr (fun i _ => by simp), fun i hi => absurd hi (by omega), h1, h2, h3, h4, h5, h6, fun i hi => absurd hi (by omega), fun i j _ hj => absurd hj (by omega)⟩

/-- A table that is all the caller's: no list shares memory with another. -/
structure Fresh (w : World) (V : Lay) (n : Nat) : Prop where
  oa : V.oa = 0
  on : V.on = 0
  ca : V.ca = n
  cn : V.cn = n
  ro : ∀ i, i < n → V.ro i = 0 ∧ V.rc i = 8
  inj : ∀ i j, i < j → j < n → V.rb i ≠ V.rb j
  sa : ∃ c, w.heap[V.ba]? = some (.cells c 4 (0, 0)) ∧ n ≤ c.size
  sn : ∃ c, w.heap[V.bn]? = some (.cells c 22 (0, 0)) ∧ n ≤ c.size
  sr : ∀ i, i < n → ∃ c, w.heap[V.rb i]? = some (.cells c 3 (0, 0)) ∧ 8 ≤ c.size
theorem shape_set {w : World} {b t m : Nat} (h : ∃ c, w.heap[b]? = some (.cells c t (0, 0)) ∧ m ≤ c.size) (q o : Nat) (u : Value) : ∃ c, (w.setCell ⟨q, o, none⟩ u).heap[b]? = some (.cells c t (0, 0)) ∧ m ≤ c.size := by
  obtain ⟨c, hb, hm⟩ := h
  by_cases e : b = q
  · subst e
    refine ⟨c.setIfInBounds o u, ?_, by simpa using hm⟩
    simp [World.setCell, Array.getElem?_modify, hb]
  · exact ⟨c, heap_set_other hb e, hm⟩
theorem shape_below {w w' : World} {b t m : Nat} (h : ∃ c, w.heap[b]? = some (.cells c t (0, 0)) ∧ m ≤ c.size) (hb : Below w.heap.size w w') : ∃ c, w'.heap[b]? = some (.cells c t (0, 0)) ∧ m ≤ c.size := by
  obtain ⟨c, hc, hm⟩ := h
  exact ⟨c, by rw [hb.block _ (heap_lt hc)]; exact hc, hm⟩
theorem Fresh.set {w : World} {V : Lay} {n : Nat} (h : Fresh w V n) (q o : Nat) (u : Value) : Fresh (w.setCell ⟨q, o, none⟩ u) V n :=
  ⟨h.oa, h.on, h.ca, h.cn, h.ro, h.inj, shape_set h.sa q o u, shape_set h.sn q o u, fun i hi => shape_set (h.sr i hi) q o u⟩
theorem Fresh.below {w w' : World} {V : Lay} {n : Nat} (h : Fresh w V n) (hb : Below w.heap.size w w') : Fresh w' V n :=
  ⟨h.oa, h.on, h.ca, h.cn, h.ro, h.inj, shape_below h.sa hb, shape_below h.sn hb, fun i hi => shape_below (h.sr i hi) hb⟩
theorem shape_row {w : World} {b t m : Nat} {f : Nat → Value} (h : w.rowIs b t m f) : ∃ c, w.heap[b]? = some (.cells c t (0, 0)) ∧ m ≤ c.size := by
  obtain ⟨c, hb, hn, _⟩ := h
  exact ⟨c, hb, by omega⟩

set_option maxRecDepth 20000 in
set_option maxHeartbeats 2000000 in
theorem merge_ok (gw ga ca gn cn go co gh ch : Nat) (M : Tab) (f : Nat → Nat) (hs : List Nat) (w : World) (hM : WideAt w gw ga ca gn cn M) (hf : NatsAt w go M.n f) (hh : NatsAt w gh hs.length (fun i => hs.getD i 0))
    (hl0 : 1 ≤ hs.length) (hl : hs.length ≤ 40) (hhd : ∀ c, c < hs.length → hs.getD c 0 < M.n) (hn : M.n ≤ 100000000) (hnx : ∀ i c, i < M.n → c < 8 → M.nxt i c < M.n) :
    Calls Try.prog 92 #[.pointer (some ⟨gw, 0, none⟩), .agg #[.slice (some ⟨go, 0, none⟩) M.n co, .slice (some ⟨gh, 0, none⟩) hs.length ch]] w
      fun e w' => ∃ V : Lay, e = .returned (.agg #[.slice (some ⟨V.ba, V.oa, none⟩) hs.length V.ca, .slice (some ⟨V.bn, V.on, none⟩) hs.length V.cn]) ∧ TabAt w' V (merged M f hs) ∧ V.From w.heap.size hs.length ∧ Below w.heap.size w w' ∧ Fresh w' V hs.length := by
  have mk1 := run_make_row' (P := Try.prog) 27 4 (.bool false) 1 Try.underlying27 Try.info4 rfl .i64 .i64 hs.length (by omega) (by omega)
  have mk2 := run_make_row' (P := Try.prog) 28 22 (.slice none 0 0) 24 Try.underlying28 Try.infoR rfl .i64 .i64 hs.length (by omega) (by omega)
  have mk3 := run_make_row' (P := Try.prog) 22 3 (.int .i64 0) 8 Try.underlying22 Try.info3 rfl .i64 .i64 8 (by omega) (by omega)
  obtain ⟨W, hW⟩ : ∃ W, W = (w.alloc (.cells #[.slice (some ⟨go, 0, none⟩) M.n co, .slice (some ⟨gh, 0, none⟩) hs.length ch] 149)).alloc
      (.cells #[.slice none 0 0, .slice none 0 0] 30) := ⟨_, rfl⟩
  have BW : Below w.heap.size w W := by
    rw [hW]; exact ((Below.refl _ _).alloc (Nat.le_refl _) _).alloc (by simp) _
  have hWs : W.heap.size = w.heap.size + 1 + 1 := by rw [hW]; simp
  have k2 : W.cell? ⟨w.heap.size, 0, none⟩ = some (.slice (some ⟨go, 0, none⟩) M.n co) := by rw [hW]; simp [go_sem]
  have k3 : W.cell? ⟨w.heap.size, 1, none⟩ = some (.slice (some ⟨gh, 0, none⟩) hs.length ch) := by rw [hW]; simp [go_sem]
  have k4 : W.heap[w.heap.size + 1]? = some (.cells #[.slice none 0 0, .slice none 0 0] 30 (0, 0)) := by rw [hW]; exact heap_at_new (by simp)
  go_enter Try.func92, Try.ntmps92
  go_upto_region 2 with fail
  rw [← hW]
  clear hW
  go_cut [6] (fun p wc => ∃ gA gN bT : Nat, p = .pointer (some ⟨bT, 0, none⟩) ∧ MergeAt w.heap.size W wc gA gN bT hs.length 0 (fun i => M.acc (hs.getD i 0)) (fun i c => f (M.nxt (hs.getD i 0) c)) (fun _ => 0))
  case first =>
    go_region
    all_goals go_wp2_with fail
    all_goals go_meet
    all_goals first | (refine ⟨w.heap.size + 1 + 1, w.heap.size + 1 + 1 + 1, _, rfl, MergeAt.drew (MergeAt.start ?_ ?_ ?_ ?_ ?_ ?_ ?_ ?_ ?_ ?_)⟩ <;> (first | omega | exact (((Below.refl _ _).alloc (by omega) _).alloc (by simp; omega) _).alloc (by simp; omega) _ | exact heap_at_new (by simp [hWs]) | exact heap_at_old (heap_at_new (by simp [hWs])) | exact heap_at_old (heap_at_old (heap_at_new (by simp [hWs])))); done) | (refine ⟨w.heap.size + 1 + 1, w.heap.size + 1 + 1 + 1 + 1, _, rfl, MergeAt.drew (MergeAt.start ?_ ?_ ?_ ?_ ?_ ?_ ?_ ?_ ?_ ?_)⟩ <;> (first | omega | exact (((Below.refl _ _).alloc (by omega) _).alloc (by simp; omega) _).alloc (by simp; omega) _ | exact heap_at_new (by simp [hWs]) | exact heap_at_old (heap_at_new (by simp [hWs])) | exact heap_at_old (heap_at_old (heap_at_new (by simp [hWs])))); done) | (refine ⟨w.heap.size + 1 + 1 + 1, w.heap.size + 1 + 1, _, rfl, MergeAt.drew (MergeAt.start ?_ ?_ ?_ ?_ ?_ ?_ ?_ ?_ ?_ ?_)⟩ <;> (first | omega | exact (((Below.refl _ _).alloc (by omega) _).alloc (by simp; omega) _).alloc (by simp; omega) _ | exact heap_at_new (by simp [hWs]) | exact heap_at_old (heap_at_new (by simp [hWs])) | exact heap_at_old (heap_at_old (heap_at_new (by simp [hWs])))); done) | (refine ⟨w.heap.size + 1 + 1 + 1, w.heap.size + 1 + 1 + 1 + 1, _, rfl, MergeAt.drew (MergeAt.start ?_ ?_ ?_ ?_ ?_ ?_ ?_ ?_ ?_ ?_)⟩ <;> (first | omega | exact (((Below.refl _ _).alloc (by omega) _).alloc (by simp; omega) _).alloc (by simp; omega) _ | exact heap_at_new (by simp [hWs]) | exact heap_at_old (heap_at_new (by simp [hWs])) | exact heap_at_old (heap_at_old (heap_at_new (by simp [hWs])))); done) | (refine ⟨w.heap.size + 1 + 1 + 1 + 1, w.heap.size + 1 + 1, _, rfl, MergeAt.drew (MergeAt.start ?_ ?_ ?_ ?_ ?_ ?_ ?_ ?_ ?_ ?_)⟩ <;> (first | omega | exact (((Below.refl _ _).alloc (by omega) _).alloc (by simp; omega) _).alloc (by simp; omega) _ | exact heap_at_new (by simp [hWs]) | exact heap_at_old (heap_at_new (by simp [hWs])) | exact heap_at_old (heap_at_old (heap_at_new (by simp [hWs])))); done) | (refine ⟨w.heap.size + 1 + 1 + 1 + 1, w.heap.size + 1 + 1 + 1, _, rfl, MergeAt.drew (MergeAt.start ?_ ?_ ?_ ?_ ?_ ?_ ?_ ?_ ?_ ?_)⟩ <;> (first | omega | exact (((Below.refl _ _).alloc (by omega) _).alloc (by simp; omega) _).alloc (by simp; omega) _ | exact heap_at_new (by simp [hWs]) | exact heap_at_old (heap_at_new (by simp [hWs])) | exact heap_at_old (heap_at_old (heap_at_new (by simp [hWs])))); done)
  case rest =>
    obtain ⟨gA, gN, bT, rfl, hMA⟩ := hcut
    simp only [show ((8 : Nat) : Int) = 8 from rfl] at mk3
    have z3 := (hMA.blw.cell (p := ⟨w.heap.size, 1, none⟩) (by simp <;> omega)).trans k3
    go_wp2_with fail
    clear z3
    go_loopw [22] (fun ix wr => ∃ k : Nat, ∃ R : Nat → Nat, k ≤ hs.length ∧ ix = .int .i64 k ∧ MergeAt w.heap.size W wr gA gN bT hs.length k (fun i => M.acc (hs.getD i 0)) (fun i c => f (M.nxt (hs.getD i 0) c)) R)
      (fun ix _ => hs.length - (intOf ix).toNat)
    case atStart => exact ⟨0, _, by omega, rfl, hMA⟩
    case round =>
      obtain ⟨k, R, hk, rfl, hMr⟩ := hrel
      clear hMA mk1 mk2
      have hbW := hMr.blw
      have hbw : Below w.heap.size w wr := BW.trans (hbW.mono (by omega))
      by_cases hlt : k < hs.length
      · have x := hh.below hbw k hlt
        have hkn := hhd k hlt
        have HM : Hid (MergeAt w.heap.size W wr gA gN bT hs.length k (fun i => M.acc (hs.getD i 0)) (fun i c => f (M.nxt (hs.getD i 0) c)) R) := hMr
        clear hMr hbW
        simp only at x
        obtain ⟨h1, HH1⟩ : ∃ h1, Hid (hs.getD k 0 = h1) := ⟨_, rfl⟩
        rw [HH1.out] at x hkn
        go_wp2_with fail
        clear x mk3
        have hsz : bT < wr.heap.size ∧ gA < wr.heap.size ∧ gN < wr.heap.size := ⟨heap_lt HM.out.blk, HM.out.rA.lt, HM.out.rN.lt⟩
        have hlo : w.heap.size + 2 ≤ wr.heap.size := by have := HM.out.loT; omega
        have hltR : ∀ i, i < k → R i < wr.heap.size := fun i hi => (HM.out.rR i hi).lt
        rename World => wo
        go_loopw [10] (fun c' wi => ∃ c : Nat, c ≤ 8 ∧ c' = .int .i64 c ∧ MergeAt w.heap.size W wi gA gN bT hs.length k (fun i => M.acc (hs.getD i 0)) (fun i c => f (M.nxt (hs.getD i 0) c)) R ∧
            wi.rowIs wo.heap.size 3 8 (fun j => if j < c then .int .i64 (f (M.nxt h1 j)) else .int .i64 0))
          (fun c' _ => 8 - (intOf c').toNat)
        case atStart => exact ⟨0, by omega, rfl, HM.out.alloc _, (madeCells_rowIs (heap_at_new rfl)).congr (fun i _ => by simp)⟩
        case round =>
          obtain ⟨c, hc, rfl, hMi, hri⟩ := hrel
          have hbWi := hMi.blw
          have hbwi : Below w.heap.size w wr := BW.trans (hbWi.mono (by omega))
          have x0 := (hM.below hbwi).p0
          have x1 := (hM.below hbwi).p1
          have x2 := (hbWi.cell (p := ⟨w.heap.size, 0, none⟩) (by simp <;> omega)).trans k2
          by_cases hlc : c < 8
          · have c1 := (hM.below hbwi).cel _ c hkn hlc
            have n1 := hnx _ c hkn hlc
            have c2 := hf.below hbwi _ n1
            have c3 := hri.cell hlc
            have c4 := hri.frozen c
            simp only [Nat.lt_irrefl, if_false] at c3
            have HMi : Hid (MergeAt w.heap.size W wr gA gN bT hs.length k (fun i => M.acc (hs.getD i 0)) (fun i c => f (M.nxt (hs.getD i 0) c)) R) := hMi
            have HRi : Hid (wr.rowIs wo.heap.size 3 8 (fun j => if j < c then .int .i64 (f (M.nxt h1 j)) else .int .i64 0)) := hri
            have HLR : Hid (∀ i, i < k → R i < wo.heap.size) := hltR
            clear hMi hri hM hf hnx hbWi hbwi hh hhd hltR
            go_wp2_with fail
            go_region
            go_wp2
            go_roundw
            case rel =>
              refine ⟨c + 1, by omega, by go_num, ?_, ?_⟩
              · exact (HMi.out.drew).setOther _ (by have := hlo; simp; omega) (by simp; omega) (by simp; omega) (by simp; omega) (fun i hi => by have := HLR.out i hi; simp; omega)
              · exact (HRi.out.drew.set c _).congr (fun j _ => by
                  by_cases e : j = c
                  · subst e; simp
                  · simp only [if_neg e]; by_cases h' : j < c
                    · rw [if_pos h', if_pos (by omega)]
                    · rw [if_neg h', if_neg (by omega)])
            case measure => simp [intOf]; omega
          · have he : c = 8 := by omega
            subst he
            have c1 := (hM.below hbwi).acc _ hkn
            obtain ⟨y0, y1, _, _⟩ := cell_two hMi.blk
            have c3 := hMi.rA.cell hlt
            have c4 := hMi.rA.frozen k
            have c5 := hMi.rN.cell hlt
            have c6 := hMi.rN.frozen k
            have d1 := hMi.dAN
            have d2 := hMi.dAT
            have d3 := hMi.dNT
            have d4 : ¬ gN = gA := fun e => d1 e.symm
            have d5 : ¬ bT = gA := fun e => d2 e.symm
            have d6 : ¬ bT = gN := fun e => d3 e.symm
            simp only [Nat.lt_irrefl, if_false] at c3 c5
            have HMi : Hid (MergeAt w.heap.size W wr gA gN bT hs.length k (fun i => M.acc (hs.getD i 0)) (fun i c => f (M.nxt (hs.getD i 0) c)) R) := hMi
            have HRi : Hid (wr.rowIs wo.heap.size 3 8 (fun j => if j < 8 then .int .i64 (f (M.nxt h1 j)) else .int .i64 0)) := hri
            have HLR : Hid (∀ i, i < k → R i < wo.heap.size) := hltR
            clear hMi hri hM hf hnx hbWi hbwi hh hhd hltR
            go_wp2_with fail
            go_region
            go_wp2
            go_roundw
            case rel =>
              have hrr : wr.drew.rowIs wo.heap.size 3 8 (fun j => .int .i64 (f (M.nxt (hs.getD k 0) j))) := by rw [HH1.out]; exact HRi.out.congr (fun j hj => by rw [if_pos hj])
              have hN := HMi.out.drew.next hrr ⟨by omega, by omega, by omega, by omega⟩ hlt (fun i hi => by have := HLR.out i hi; omega)
              rw [HH1.out] at hN
              exact ⟨k + 1, _, by omega, by go_num, hN⟩
            case measure => simp [intOf]; omega
      · have he : k = hs.length := by omega
        subst he
        obtain ⟨y0, y1, _, _⟩ := cell_two hMr.blk
        have hq : wr.heap[w.heap.size + 1]? = some (.cells #[.slice none 0 0, .slice none 0 0] 30 (0, 0)) := (hbW.block _ (by omega)).trans k4
        obtain ⟨q0, q1, p0, p1⟩ := cell_two hq
        have HM : Hid (MergeAt w.heap.size W wr gA gN bT hs.length hs.length (fun i => M.acc (hs.getD i 0)) (fun i c => f (M.nxt (hs.getD i 0) c)) R) := hMr
        clear hMr hM hf hnx hbW hh hhd
        go_wp2
        obtain ⟨r1, r2, r3⟩ := res_two (u := .slice (some ⟨gA, 0, none⟩) hs.length hs.length) (v := .slice (some ⟨gN, 0, none⟩) hs.length hs.length) hq
        refine bodyPost_ret (v := .agg #[.slice (some ⟨gA, 0, none⟩) hs.length hs.length, .slice (some ⟨gN, 0, none⟩) hs.length hs.length]) (by simp [results, Try.results92, go_sem, r1, r2]) rfl ?_
        have hm := HM.out
        refine ⟨⟨gA, 0, hs.length, gN, 0, hs.length, R, fun _ => 0, fun _ => 8⟩, rfl, ⟨fun i hi => ?_, fun i hi => ?_, fun i c hi hc => ?_⟩, ⟨by have := hm.loA; simp; omega, by have := hm.loN; simp; omega, fun i hi => by have := (hm.dR i hi).2.2.2; simp; omega⟩, ?_, ?_⟩
        · have h1 := ((hm.rA.setOther (a := ⟨w.heap.size + 1, 0, none⟩) (by have := hm.loA; simp; omega) (.slice (some ⟨gA, 0, none⟩) hs.length hs.length)).setOther (a := ⟨w.heap.size + 1, 1, none⟩) (by have := hm.loA; simp; omega) (.slice (some ⟨gN, 0, none⟩) hs.length hs.length)).cell hi
          rw [if_pos (show i < hs.length from hi)] at h1
          simpa [merged] using h1
        · have h1 := ((hm.rN.setOther (a := ⟨w.heap.size + 1, 0, none⟩) (by have := hm.loN; simp; omega) (.slice (some ⟨gA, 0, none⟩) hs.length hs.length)).setOther (a := ⟨w.heap.size + 1, 1, none⟩) (by have := hm.loN; simp; omega) (.slice (some ⟨gN, 0, none⟩) hs.length hs.length)).cell hi
          rw [if_pos (show i < hs.length from hi)] at h1
          simpa [merged] using h1
        · have hd := (hm.dR i hi).2.2.2
          have h1 := (((hm.rR i hi).setOther (a := ⟨w.heap.size + 1, 0, none⟩) (by simp; omega) (.slice (some ⟨gA, 0, none⟩) hs.length hs.length)).setOther (a := ⟨w.heap.size + 1, 1, none⟩) (by simp; omega) (.slice (some ⟨gN, 0, none⟩) hs.length hs.length)).cell hc
          simpa [merged] using h1
        · exact (hbw.setCell (p := ⟨w.heap.size + 1, 0, none⟩) (by simp <;> omega) _).setCell (p := ⟨w.heap.size + 1, 1, none⟩) (by simp <;> omega) _
        · refine ⟨rfl, rfl, rfl, rfl, fun i hi => ⟨rfl, rfl⟩, hm.inj, ?_, ?_, fun i hi => ?_⟩
          · exact shape_set (shape_set (shape_row hm.rA) _ _ _) _ _ _
          · exact shape_set (shape_set (shape_row hm.rN) _ _ _) _ _ _
          · exact shape_set (shape_set (shape_row (hm.rR i hi)) _ _ _) _ _ _
end Go.Proofs.Ytpngikmcjkjdaab
