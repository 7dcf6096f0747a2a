import Derived.Test.YtpngikmcjkjdaaaGreatDoorPairP
import Derived.Test.YtpngikmcjkjdaaaGreatDoorRefLN
import Derived.Test.YtpngikmcjkjdaaaGreatDoorRefSmall
import Derived.Test.YtpngikmcjkjdaaaGreatDoorJoinNo
import Derived.Test.YtpngikmcjkjdaaaGreatDoorRefLeast
namespace Go.Proofs.YtpngikmcjkjdaaaGreatDoor
/-- A pair's number in the reference's list. -/
def cv (n q : Nat) : Nat := q / 40 * n + q % 40
theorem cv_div {n q : Nat} (h : q % 40 < n) : cv n q / n = q / 40 := by
  unfold cv
  rw [Nat.add_comm, Nat.add_mul_div_right _ _ (by omega), Nat.div_eq_of_lt h, Nat.zero_add]
theorem cv_mod {n q : Nat} (h : q % 40 < n) : cv n q % n = q % 40 := by
  unfold cv
  rw [Nat.add_comm, Nat.add_mul_mod_self_right, Nat.mod_eq_of_lt h]
theorem cv_inj {n a b : Nat} (ha : a % 40 < n) (hb : b % 40 < n) (h : cv n a = cv n b) : a = b := by
  have h1 := cv_div ha
  have h2 := cv_div hb
  have h3 := cv_mod ha
  have h4 := cv_mod hb
  rw [h] at h1 h3
  omega
theorem cv_lt {M N : Tab} {q : Nat} (h : goodQ M N q) : cv N.n q < M.n * N.n := by
  have h1 : (q / 40 + 1) * N.n ≤ M.n * N.n := Nat.mul_le_mul_right _ h.1
  have h2 := h.2
  unfold cv
  rw [Nat.add_mul] at h1
  omega
/-- What 'at' holds: by pair, its place in the list and one; else 0. -/
def atv (n : Nat) (ps : List Nat) (r : Nat) : Nat := if r ∈ ps.map (cv n) then (ps.map (cv n)).idxOf r + 1 else 0
theorem idxOf_cv {n : Nat} {ps : List Nat} (h : ∀ q ∈ ps, q % 40 < n) {q : Nat} (hq : q % 40 < n) : (ps.map (cv n)).idxOf (cv n q) = ps.idxOf q := by
  induction ps with
  | nil => rfl
  | cons a l ih =>
    have ha := h a (by simp)
    have hl := ih (fun x hx => h x (by simp [hx]))
    simp only [List.map_cons, List.idxOf_cons]
    by_cases e : a = q
    · subst e; simp
    · have : cv n a ≠ cv n q := fun e' => e (cv_inj ha hq e')
      have e1 : (cv n a == cv n q) = false := by simpa using this
      have e2 : (a == q) = false := by simpa using e
      rw [e1, e2, hl]
theorem mem_cv {n : Nat} {ps : List Nat} (h : ∀ q ∈ ps, q % 40 < n) {q : Nat} (hq : q % 40 < n) : cv n q ∈ ps.map (cv n) ↔ q ∈ ps := by
  rw [List.mem_map]
  constructor
  · rintro ⟨a, ha, e⟩; rw [← cv_inj (h a ha) hq e]; exact ha
  · intro hm; exact ⟨q, hm, rfl⟩
theorem atv_old {n : Nat} {ps : List Nat} (h : ∀ q ∈ ps, q % 40 < n) {q : Nat} (hq : q ∈ ps) : atv n ps (cv n q) = ps.idxOf q + 1 := by
  have hn := h q hq
  unfold atv
  rw [if_pos ((mem_cv h hn).2 hq), idxOf_cv h hn]
theorem atv_none {n : Nat} {ps : List Nat} (h : ∀ q ∈ ps, q % 40 < n) {q : Nat} (hn : q % 40 < n) (hq : q ∉ ps) : atv n ps (cv n q) = 0 := by
  unfold atv
  rw [if_neg (fun hm => hq ((mem_cv h hn).1 hm))]
theorem atv_new (n : Nat) (ps : List Nat) (q r : Nat) (hq : cv n q ∉ ps.map (cv n)) : atv n (ps ++ [q]) r = if r = cv n q then ps.length + 1 else atv n ps r := by
  unfold atv
  by_cases e : r = cv n q
  · subst e; simp [List.map_append, List.idxOf_append, hq]
  · by_cases h : r ∈ ps.map (cv n)
    · simp only [List.map_append, List.map_cons, List.map_nil, List.mem_append, h, true_or, if_true, List.idxOf_append, if_neg e]
    · simp only [List.map_append, List.map_cons, List.map_nil, List.mem_append, h, List.mem_singleton, e, or_self, if_false]
end Go.Proofs.YtpngikmcjkjdaaaGreatDoor

namespace Go.Proofs.YtpngikmcjkjdaaaGreatDoor
open Go.RowKit
set_option linter.unusedVariables false

/-- What both answers: to be shown in RefBoth. -/
def BothOk : Prop := ∀ (V U : Lay) (M N : Tab) (how : Int) (w : World), M.Ok → N.Ok → TabAt w V M → TabAt w U N → 0 ≤ how → how ≤ 3 →
  Calls Tryz.prog 82 #[.agg #[.slice (some ⟨V.ba, V.oa, none⟩) M.n V.ca, .slice (some ⟨V.bn, V.on, none⟩) M.n V.cn], .agg #[.slice (some ⟨U.ba, U.oa, none⟩) N.n U.ca, .slice (some ⟨U.bn, U.on, none⟩) N.n U.cn], .int .i64 how] w
    fun e w' => Below w.heap.size w w' ∧ ∃ (ps : List Nat) (Z : Lay), PRel (goodQ M N) (succQ M N) ps (8 * ps.length) ∧ e = .returned (.agg #[.slice (some ⟨Z.ba, Z.oa, none⟩) ps.length Z.ca, .slice (some ⟨Z.bn, Z.on, none⟩) ps.length Z.cn]) ∧ TabAt w' Z (pairTab M N how ps)

set_option maxRecDepth 20000 in
set_option maxHeartbeats 1000000 in
theorem bounded_no (aa an : Option Addr) (na ca nn cn : Nat) (budget : Int) (w : World) (h : budget < (nn : Int)) :
    Calls Tryz.prog 66 #[.agg #[.slice aa na ca, .slice an nn cn], .int .i64 budget] w
      fun e w' => e = .returned (.tuple #[.agg #[.slice none 0 0, .slice none 0 0], .int .i64 5]) ∧ Below w.heap.size w w' := by
  obtain ⟨W, hW⟩ : ∃ W, W = (w.alloc (.cells #[.slice aa na ca, .slice an nn cn] 41)).alloc (.cells #[.slice none 0 0, .slice none 0 0] 41) := ⟨_, rfl⟩
  have BW : Below w.heap.size w W := by rw [hW]; exact ((Below.refl _ _).alloc (Nat.le_refl _) _).alloc (by simp) _
  have b0 : W.heap[w.heap.size]? = some (.cells #[.slice aa na ca, .slice an nn cn] 41 (0, 0)) := by rw [hW]; exact heap_at_old (heap_at_new (by simp))
  have b1 : W.heap[w.heap.size + 1]? = some (.cells #[.slice none 0 0, .slice none 0 0] 41 (0, 0)) := by rw [hW]; exact heap_at_new (by simp)
  obtain ⟨x0, x1, _, _⟩ := cell_two b0
  obtain ⟨q0, q1, p0, p1⟩ := cell_two b1
  have HF : Hid _ := below_res BW (b := w.heap.size + 1) (by omega) (.slice none 0 0) (.slice none 0 0)
  go_enter Tryz.func66, Tryz.ntmps66
  go_upto_region 1 with fail
  rw [← hW]
  clear hW
  go_wp2_with fail
  obtain ⟨_, r2, r1⟩ := res_two (u := .slice none 0 0) (v := .slice none 0 0) b1
  refine bodyPost_ret (v := .tuple #[.agg #[.slice none 0 0, .slice none 0 0], .int .i64 5]) (by simp [results, Tryz.results66, go_sem, r1, r2]) rfl ?_
  exact ⟨rfl, HF.out⟩

set_option maxRecDepth 20000 in
set_option maxHeartbeats 1000000 in
theorem bounded_yes (aa an : Option Addr) (na ca nn cn : Nat) (budget : Int) (w : World) (h : (nn : Int) ≤ budget) :
    Calls Tryz.prog 66 #[.agg #[.slice aa na ca, .slice an nn cn], .int .i64 budget] w
      fun e w' => e = .returned (.tuple #[.agg #[.slice aa na ca, .slice an nn cn], .int .i64 0]) ∧ Below w.heap.size w w' := by
  obtain ⟨W, hW⟩ : ∃ W, W = (w.alloc (.cells #[.slice aa na ca, .slice an nn cn] 41)).alloc (.cells #[.slice none 0 0, .slice none 0 0] 41) := ⟨_, rfl⟩
  have BW : Below w.heap.size w W := by rw [hW]; exact ((Below.refl _ _).alloc (Nat.le_refl _) _).alloc (by simp) _
  have b0 : W.heap[w.heap.size]? = some (.cells #[.slice aa na ca, .slice an nn cn] 41 (0, 0)) := by rw [hW]; exact heap_at_old (heap_at_new (by simp))
  have b1 : W.heap[w.heap.size + 1]? = some (.cells #[.slice none 0 0, .slice none 0 0] 41 (0, 0)) := by rw [hW]; exact heap_at_new (by simp)
  obtain ⟨x0, x1, _, _⟩ := cell_two b0
  obtain ⟨q0, q1, p0, p1⟩ := cell_two b1
  have hn : ¬ budget < (nn : Int) := by omega
  have HF : Hid _ := below_res BW (b := w.heap.size + 1) (by omega) (.slice aa na ca) (.slice an nn cn)
  go_enter Tryz.func66, Tryz.ntmps66
  go_upto_region 1 with fail
  rw [← hW]
  clear hW
  go_wp2_with fail
  obtain ⟨_, r2, r1⟩ := res_two (u := .slice aa na ca) (v := .slice an nn cn) b1
  refine bodyPost_ret (v := .tuple #[.agg #[.slice aa na ca, .slice an nn cn], .int .i64 0]) (by simp [results, Tryz.results66, go_sem, r1, r2]) rfl ?_
  exact ⟨rfl, HF.out⟩

set_option maxRecDepth 20000 in
set_option maxHeartbeats 2000000 in
theorem refJoin_no (t u : RLay) (A C : Nat → Bool) (X Y : Nat → Nat → Int) (how budget : Int) (w : World) (hT : RawAt w t A X) (hU : RawAt w u C Y) (hne : joinErr t u X Y how budget ≠ 0) :
    Calls Tryz.prog 41 #[.agg #[.slice t.aa t.na t.ca, .slice t.an t.nn t.cn], .agg #[.slice u.aa u.na u.ca, .slice u.an u.nn u.cn], .int .i64 how, .int .i64 budget] w
      fun e w' => e = .returned (.tuple #[.agg #[.slice none 0 0, .slice none 0 0], .int .i64 (joinErr t u X Y how budget)]) ∧ Below w.heap.size w w' := by
  obtain ⟨W, hW⟩ : ∃ W, W = (((w.alloc (.cells #[.slice t.aa t.na t.ca, .slice t.an t.nn t.cn] 41)).alloc (.cells #[.slice u.aa u.na u.ca, .slice u.an u.nn u.cn] 41)).alloc (.cells #[.slice none 0 0, .slice none 0 0] 41)) := ⟨_, rfl⟩
  have BW : Below w.heap.size w W := by
    rw [hW]; exact (((Below.refl _ _).alloc (Nat.le_refl _) _).alloc (by simp) _).alloc (by simp; omega) _
  have hWs : w.heap.size + 1 + 1 < W.heap.size := by rw [hW]; simp
  have b0 : W.heap[w.heap.size]? = some (.cells #[.slice t.aa t.na t.ca, .slice t.an t.nn t.cn] 41 (0, 0)) := by rw [hW]; exact heap_at_old (heap_at_old (heap_at_new (by simp)))
  have b1 : W.heap[w.heap.size + 1]? = some (.cells #[.slice u.aa u.na u.ca, .slice u.an u.nn u.cn] 41 (0, 0)) := by rw [hW]; exact heap_at_old (heap_at_new (by simp))
  have b2 : W.heap[w.heap.size + 1 + 1]? = some (.cells #[.slice none 0 0, .slice none 0 0] 41 (0, 0)) := by rw [hW]; exact heap_at_new (by simp)
  have HV := isTable_any t A X W (hT.below BW)
  have hU1 := hU.below BW
  obtain ⟨o1, HO1⟩ : ∃ x, Hid (rawOk t X = x) := ⟨_, rfl⟩
  obtain ⟨o2, HO2⟩ : ∃ x, Hid (rawOk u Y = x) := ⟨_, rfl⟩
  rw [HO1.out] at HV
  obtain ⟨er, HE⟩ : ∃ x, Hid (joinErr t u X Y how budget = x) := ⟨_, rfl⟩
  rw [HE.out] at hne ⊢
  have hcase : Hid ((o1 = false ∧ er = 6) ∨ (o1 = true ∧ o2 = false ∧ er = 6) ∨ (o1 = true ∧ o2 = true ∧ how < 0 ∧ er = 8) ∨ (o1 = true ∧ o2 = true ∧ ¬ how < 0 ∧ 3 < how ∧ er = 8) ∨ (o1 = true ∧ o2 = true ∧ ¬ how < 0 ∧ ¬ 3 < how ∧ (decide (1 ≤ budget) && decide (budget ≤ 40)) = false ∧ er = 8)) := by
    have h := HE.out
    unfold joinErr at h
    rw [HO1.out, HO2.out] at h
    unfold Hid
    cases o1
    · left; simp at h; exact ⟨rfl, h.symm⟩
    · cases o2
      · right; left; simp at h; exact ⟨rfl, rfl, h.symm⟩
      · right; right
        simp only [Bool.true_eq_false, if_false] at h
        by_cases g1 : how < 0
        · left; rw [if_pos (.inl g1)] at h; exact ⟨rfl, rfl, g1, h.symm⟩
        · right
          by_cases g2 : 3 < how
          · left; rw [if_pos (.inr g2)] at h; exact ⟨rfl, rfl, g1, g2, h.symm⟩
          · right
            rw [if_neg (by omega)] at h
            by_cases g3 : budget < 1 ∨ 40 < budget
            · rw [if_pos g3] at h; exact ⟨rfl, rfl, g1, g2, by simp; omega, h.symm⟩
            · rw [if_neg g3] at h; exact absurd h.symm hne
  obtain ⟨x0, x1, _, _⟩ := cell_two b0
  clear hT hU hne HE
  go_enter Tryz.func41, Tryz.ntmps41
  go_wp2_with fail
  rw [← hW]
  clear hW
  refine HV.mono ?_
  clear HV
  rintro e w1 ⟨rfl, hB1⟩
  have hs1 := hB1.size
  have HV := isTable_any u C Y w1 (hU1.below hB1)
  rw [HO2.out] at HV
  have c1 := (hB1.block _ (by omega)).trans b1
  have c2 := (hB1.block _ (by omega)).trans b2
  have BW1 : Below w.heap.size w w1 := BW.trans (hB1.mono (by omega))
  clear x0 x1 b0 b1 b2 hB1 hU1 BW
  obtain ⟨x0, x1, _, _⟩ := cell_two c1
  go_wp2_with fail
  refine HV.mono ?_
  clear HV
  rintro e w2 ⟨rfl, hB2⟩
  have d2 := (hB2.block _ (by omega)).trans c2
  have BW2 : Below w.heap.size w w2 := BW1.trans (hB2.mono (by omega))
  have HF : Hid _ := below_res BW2 (b := w.heap.size + 1 + 1) (by omega) (.slice none 0 0) (.slice none 0 0)
  obtain ⟨q0, q1, p0, p1⟩ := cell_two d2
  clear x0 x1 c1 c2 hB2 BW1 BW2
  obtain ⟨_, r2, r1⟩ := res_two (u := .slice none 0 0) (v := .slice none 0 0) d2
  have HR1 : Hid _ := r1
  have HR2 : Hid _ := r2
  clear r1 r2
  have hc := hcase.out
  clear hcase
  rcases hc with ⟨rfl, rfl⟩ | ⟨rfl, rfl, rfl⟩ | ⟨rfl, rfl, g1, rfl⟩ | ⟨rfl, rfl, g1, g2, rfl⟩ | ⟨rfl, rfl, g1, g2, g3, rfl⟩
  · go_wp2_with fail
    have r1 := HR1.out
    have r2 := HR2.out
    refine bodyPost_ret (v := .tuple #[.agg #[.slice none 0 0, .slice none 0 0], .int .i64 6]) (by simp [results, Tryz.results41, go_sem, r1, r2]) rfl ?_
    exact ⟨rfl, HF.out⟩
  · go_wp2_with fail
    have r1 := HR1.out
    have r2 := HR2.out
    refine bodyPost_ret (v := .tuple #[.agg #[.slice none 0 0, .slice none 0 0], .int .i64 6]) (by simp [results, Tryz.results41, go_sem, r1, r2]) rfl ?_
    exact ⟨rfl, HF.out⟩
  all_goals
    have HC := isBudget_ok budget w2
    try rw [g3] at HC
    obtain ⟨bb, HBB⟩ : ∃ x, Hid ((decide (1 ≤ budget) && decide (budget ≤ 40)) = x) := ⟨_, rfl⟩
    try rw [HBB.out] at HC
    clear HBB
    try clear g3
    go_wp2_with fail
    refine HC.mono ?_
    rintro e w3 ⟨rfl, hw3⟩
    obtain rfl : w2 = w3 := hw3.symm
    clear HC
    go_wp2_with fail
    have r1 := HR1.out
    have r2 := HR2.out
    refine bodyPost_ret (v := .tuple #[.agg #[.slice none 0 0, .slice none 0 0], .int .i64 8]) (by simp [results, Tryz.results41, go_sem, r1, r2]) rfl ?_
    exact ⟨rfl, HF.out⟩

/-- What the reference's Join answers. -/
def RJPost (L : List Nat → Bool) (budget : Nat) (w : World) (e : Ending) (w' : World) : Prop :=
  Below w.heap.size w w' ∧ ((∃ (U : Lay) (R : Tab), IsLeast R L ∧ R.n ≤ budget ∧ e = .returned (.tuple #[.agg #[.slice (some ⟨U.ba, U.oa, none⟩) R.n U.ca, .slice (some ⟨U.bn, U.on, none⟩) R.n U.cn], .int .i64 0]) ∧ TabAt w' U R) ∨
    (e = .returned (.tuple #[.agg #[.slice none 0 0, .slice none 0 0], .int .i64 5]) ∧ ∃ R, IsLeast R L ∧ budget < R.n))
theorem IsLeast.lang_congr {R : Tab} {L L' : List Nat → Bool} (h : IsLeast R L) (he : ∀ x, Notes x → L x = L' x) : IsLeast R L' := ⟨h.num, h.apart, fun x hx => (h.lang x hx).trans (he x hx)⟩

set_option maxRecDepth 20000 in
set_option maxHeartbeats 2000000 in
theorem refJoin_ok (hboth : BothOk) (V U : Lay) (M N : Tab) (how budget : Int) (w : World) (hM : M.Ok) (hN : N.Ok) (hV : TabAt w V M) (hU : TabAt w U N) (hh0 : 0 ≤ how) (hh1 : how ≤ 3) (hb0 : 1 ≤ budget) (hb1 : budget ≤ 40) :
    Calls Tryz.prog 41 #[.agg #[.slice (some ⟨V.ba, V.oa, none⟩) M.n V.ca, .slice (some ⟨V.bn, V.on, none⟩) M.n V.cn], .agg #[.slice (some ⟨U.ba, U.oa, none⟩) N.n U.ca, .slice (some ⟨U.bn, U.on, none⟩) N.n U.cn], .int .i64 how, .int .i64 budget] w
      (RJPost (fun x => joinB how (M.accepts x) (N.accepts x)) budget.toNat w) := by
  obtain ⟨W, hW⟩ : ∃ W, W = (((w.alloc (.cells #[.slice (some ⟨V.ba, V.oa, none⟩) M.n V.ca, .slice (some ⟨V.bn, V.on, none⟩) M.n V.cn] 41)).alloc (.cells #[.slice (some ⟨U.ba, U.oa, none⟩) N.n U.ca, .slice (some ⟨U.bn, U.on, none⟩) N.n U.cn] 41)).alloc (.cells #[.slice none 0 0, .slice none 0 0] 41)) := ⟨_, rfl⟩
  have BW : Below w.heap.size w W := by
    rw [hW]; exact (((Below.refl _ _).alloc (Nat.le_refl _) _).alloc (by simp) _).alloc (by simp; omega) _
  have hWs : w.heap.size + 1 + 1 < W.heap.size := by rw [hW]; simp
  have b0 : W.heap[w.heap.size]? = some (.cells #[.slice (some ⟨V.ba, V.oa, none⟩) M.n V.ca, .slice (some ⟨V.bn, V.on, none⟩) M.n V.cn] 41 (0, 0)) := by rw [hW]; exact heap_at_old (heap_at_old (heap_at_new (by simp)))
  have b1 : W.heap[w.heap.size + 1]? = some (.cells #[.slice (some ⟨U.ba, U.oa, none⟩) N.n U.ca, .slice (some ⟨U.bn, U.on, none⟩) N.n U.cn] 41 (0, 0)) := by rw [hW]; exact heap_at_old (heap_at_new (by simp))
  have b2 : W.heap[w.heap.size + 1 + 1]? = some (.cells #[.slice none 0 0, .slice none 0 0] 41 (0, 0)) := by rw [hW]; exact heap_at_new (by simp)
  have hV0 := hV.below BW
  have hU0 := hU.below BW
  obtain ⟨x0, x1, _, _⟩ := cell_two b0
  go_enter Tryz.func41, Tryz.ntmps41
  go_wp2_with fail
  rw [← hW]
  clear hW
  refine (isTable_ok V M W hM hV0).mono ?_
  rintro e w1 ⟨rfl, hB1⟩
  have hs1 := hB1.size
  obtain ⟨y0, y1, _, _⟩ := cell_two ((hB1.block _ (by omega)).trans b1)
  have HC := isTable_ok U N w1 hN (hU0.below hB1)
  clear x0 x1
  go_wp2_with fail
  refine HC.mono ?_
  clear HC
  rintro e w2 ⟨rfl, hB2⟩
  have hs2 := hB2.size
  have B2 : Below W.heap.size W w2 := hB1.trans (hB2.mono (by omega))
  have HC := isBudget_ok budget w2
  rw [show (decide (1 ≤ budget) && decide (budget ≤ 40)) = true by simp; omega] at HC
  clear y0 y1 hB1 hB2
  go_wp2_with fail
  refine HC.mono ?_
  clear HC
  rintro e w3 ⟨rfl, hw3⟩
  obtain rfl : w2 = w3 := hw3.symm
  have g1 : ¬ how < 0 := by omega
  have g2 : ¬ 3 < how := by omega
  obtain ⟨x0, x1, _, _⟩ := cell_two ((B2.block _ (by omega)).trans b0)
  obtain ⟨y0, y1, _, _⟩ := cell_two ((B2.block _ (by omega)).trans b1)
  have HC := hboth V U M N how w2 hM hN (hV0.below B2) (hU0.below B2) hh0 hh1
  go_wp2_with fail
  refine HC.mono ?_
  clear HC
  rintro e w4 ⟨hB4, ps, Z, hR, rfl, hZ⟩
  have hs4 := hB4.size
  have B4 : Below W.heap.size W w4 := B2.trans (hB4.mono (by omega))
  have hbd := hR.bound hN
  have hb16 : M.n * N.n ≤ 1600 := by have := Nat.mul_le_mul hM.hi hN.hi; omega
  have hlen := hR.len
  have hnum := pair_numbered (how := how) hR
  have HC := rleast_ok Z (pairTab M N how ps) w4 hlen (by show ps.length ≤ 100000000; omega) (fun i c hi hc => hnum.nx i c hi hc) hZ
  have hL : Hid (∀ x, Notes x → (pairTab M N how ps).accepts x = joinB how (M.accepts x) (N.accepts x)) := fun x hx => pair_accepts hM hN hR x hx
  rw [show (pairTab M N how ps).n = ps.length from rfl] at HC
  clear x0 x1 y0 y1 hB4 B2 hR hZ hnum
  go_wp2_with fail
  refine HC.mono ?_
  clear HC
  rintro e w5 ⟨hB5, Q, R, hR, rfl, hT, hF⟩
  have hs5 := hB5.size
  have hR2 : Hid (IsLeast R (fun x => joinB how (M.accepts x) (N.accepts x))) := hR.lang_congr hL.out
  have B5 : Below W.heap.size W w5 := B4.trans (hB5.mono (by omega))
  clear hR hL hB5 B4
  go_upto_region 9 with fail
  obtain ⟨W6, hW6⟩ : ∃ W6, W6 = w5.alloc (.cells #[.slice (some ⟨Q.ba, Q.oa, none⟩) R.n Q.ca, .slice (some ⟨Q.bn, Q.on, none⟩) R.n Q.cn] 41) := ⟨_, rfl⟩
  have b6 : Below w5.heap.size w5 W6 := by rw [hW6]; exact (Below.refl _ _).alloc (Nat.le_refl _) _
  have s6 : w5.heap.size < W6.heap.size := by rw [hW6]; simp
  have q6 : W6.heap[w5.heap.size]? = some (.cells #[.slice (some ⟨Q.ba, Q.oa, none⟩) R.n Q.ca, .slice (some ⟨Q.bn, Q.on, none⟩) R.n Q.cn] 41 (0, 0)) := by rw [hW6]; exact heap_at_new rfl
  rw [← hW6]
  clear hW6
  have B6 : Below W.heap.size W W6 := B5.trans (b6.mono (by omega))
  have HT : Hid (TabAt W6 Q R) := hT.below b6
  have HFr : Hid (Q.From w4.heap.size R.n) := hF
  obtain ⟨x0, x1, _, _⟩ := cell_two q6
  clear hT hF b6 B5
  by_cases hle : R.n ≤ budget.toNat
  · have HC := bounded_yes (some ⟨Q.ba, Q.oa, none⟩) (some ⟨Q.bn, Q.on, none⟩) R.n Q.ca R.n Q.cn budget W6 (by omega)
    go_wp2_with fail
    refine HC.mono ?_
    clear HC
    rintro e w7 ⟨rfl, hB7⟩
    have hs7 := hB7.size
    have B7 : Below W.heap.size W w7 := B6.trans (hB7.mono (by omega))
    have d2 := (B7.block _ (by omega)).trans b2
    have BW7 : Below w.heap.size w w7 := BW.trans (B7.mono (by omega))
    have HT7 : Hid _ := HT.out.below hB7
    obtain ⟨q0, q1, p0, p1⟩ := cell_two d2
    clear hB7 B7 B6 x0 x1 q6
    go_wp2_with fail
    obtain ⟨_, r2, r1⟩ := res_two (u := .slice (some ⟨Q.ba, Q.oa, none⟩) R.n Q.ca) (v := .slice (some ⟨Q.bn, Q.on, none⟩) R.n Q.cn) d2
    refine bodyPost_ret (v := .tuple #[.agg #[.slice (some ⟨Q.ba, Q.oa, none⟩) R.n Q.ca, .slice (some ⟨Q.bn, Q.on, none⟩) R.n Q.cn], .int .i64 0]) (by simp [results, Tryz.results41, go_sem, r1, r2]) rfl ?_
    exact ⟨below_res BW7 (b := w.heap.size + 1 + 1) (by omega) _ _, .inl ⟨Q, R, hR2.out, hle, rfl, HT7.out.res HFr.out (b := w.heap.size + 1 + 1) (by omega) _ _⟩⟩
  · have HC := bounded_no (some ⟨Q.ba, Q.oa, none⟩) (some ⟨Q.bn, Q.on, none⟩) R.n Q.ca R.n Q.cn budget W6 (by omega)
    go_wp2_with fail
    refine HC.mono ?_
    clear HC
    rintro e w7 ⟨rfl, hB7⟩
    have hs7 := hB7.size
    have B7 : Below W.heap.size W w7 := B6.trans (hB7.mono (by omega))
    have d2 := (B7.block _ (by omega)).trans b2
    have BW7 : Below w.heap.size w w7 := BW.trans (B7.mono (by omega))
    obtain ⟨q0, q1, p0, p1⟩ := cell_two d2
    clear hB7 B7 B6 x0 x1 q6
    go_wp2_with fail
    obtain ⟨_, r2, r1⟩ := res_two (u := .slice none 0 0) (v := .slice none 0 0) d2
    refine bodyPost_ret (v := .tuple #[.agg #[.slice none 0 0, .slice none 0 0], .int .i64 5]) (by simp [results, Tryz.results41, go_sem, r1, r2]) rfl ?_
    exact ⟨below_res BW7 (b := w.heap.size + 1 + 1) (by omega) _ _, .inr ⟨rfl, R, hR2.out, by omega⟩⟩
end Go.Proofs.YtpngikmcjkjdaaaGreatDoor

namespace Go.Proofs.YtpngikmcjkjdaaaGreatDoor
open Go.RowKit
set_option linter.unusedVariables false

section
variable {w w2 : World}
theorem own_apart2 {base base' e e' s s' n n' : Nat} {v v' : Value} {x x' : List Value} (h : w.ownsRow base e s v n x) (h' : w.ownsRow base' e' s' v' n' x') (hne : e ≠ e') (g : Nat) (hg : v.ownBlock = some g) (hg' : v'.ownBlock = some g) : False := by
  rcases h.2 with ⟨rfl, _⟩ | ⟨a, cap, cur, rfl, _, h1, _⟩
  · simp [Value.ownBlock] at hg
  · rcases h'.2 with ⟨rfl, _⟩ | ⟨a', cap', cur', rfl, _, h2, _⟩
    · simp [Value.ownBlock] at hg'
    · simp only [Value.ownBlock, Option.some.injEq] at hg hg'
      subst hg; subst hg'
      rw [h1] at h2
      simp only [Option.some.injEq, Obj.cells.injEq] at h2
      exact hne h2.2.1
theorem own_blk {base e s n t b : Nat} {v : Value} {x : List Value} {cs : Array Value} {k : Nat × Nat} (h : w.ownsRow base e s v n x) (hb : w.heap[b]? = some (.cells cs t k)) (hne : e ≠ t) (g : Nat) (hg : v.ownBlock = some g) : g ≠ b := by
  rcases h.2 with ⟨rfl, _⟩ | ⟨a, cap, cur, rfl, _, h1, _⟩
  · simp [Value.ownBlock] at hg
  · simp only [Value.ownBlock, Option.some.injEq] at hg
    subst hg
    rintro rfl
    rw [h1] at hb
    simp only [Option.some.injEq, Obj.cells.injEq] at hb
    exact hne hb.2.1
/-- A row of one's own stays where another of another type grows. -/
theorem own_keeps {base base' e e' s s' n n' : Nat} {v v' : Value} {x x' : List Value} (h : w.ownsRow base e s v n x) (h' : w.ownsRow base' e' s' v' n' x') (hne : e ≠ e') (hg : w.grownBy w2 v'.ownBlock) : w2.ownsRow base e s v n x := by
  refine h.kept hg ?_
  cases hv : v.ownBlock with
  | none => exact .inl rfl
  | some k => exact .inr (fun e => own_apart2 h h' hne k hv e.symm)
theorem own_keeps2 {base e s n : Nat} {v v' : Value} {x : List Value} (h : w.ownsRow base e s v n x) (hd : ∀ g, v.ownBlock = some g → v'.ownBlock = some g → False) (hg : w.grownBy w2 v'.ownBlock) : w2.ownsRow base e s v n x := by
  refine h.kept hg ?_
  cases hv : v.ownBlock with
  | none => exact .inl rfl
  | some k => exact .inr (fun e => hd k hv e.symm)
end

section
variable {W W' : World} {b : Nat} {w w1 w2 : World} {va vn vr vp : Value} {ka kn : Nat} {A : Nat → Bool} {R C : Nat → Nat} {X : Nat → Nat → Nat} {c : Nat} {x : List Value}
theorem BuildMem.rebase (h : BuildMem W b w va vn ka kn A R C X) : BuildMem w b w va vn ka kn A R C X :=
  ⟨⟨Below.refl _ _, h.two.blk, h.two.own0, h.two.own1, h.two.dis⟩, h.rows⟩
theorem acells_congr {A A' : Nat → Bool} {k : Nat} (h : ∀ i, i < k → A i = A' i) : acells A k = acells A' k := by
  induction k with
  | zero => rfl
  | succ k ih => simp only [acells]; rw [ih (fun i hi => h i (by omega)), h k (by omega)]
theorem icells_congr {X Y : Nat → Nat} {k : Nat} (h : ∀ i, i < k → X i = Y i) : icells X k = icells Y k := by
  simp only [icells]; apply List.map_congr_left; intro i hi; rw [h i (by simpa using hi)]
theorem BuildMem.congr (h : BuildMem W b w va vn ka kn A R C X) {A' : Nat → Bool} {X' : Nat → Nat → Nat} (ha : ∀ i, i < ka → A i = A' i) (hx : ∀ i c, i < kn → c < 8 → X i c = X' i c) : BuildMem W b w va vn ka kn A' R C X' :=
  ⟨by have := h.two; rw [acells_congr ha] at this; exact this, fun i hi => by have := h.rows i hi; rw [icells_congr (fun c hc => hx i c hi hc)] at this; exact this⟩
/-- A write below the table's block, or into a row of another's. -/
theorem BuildMem.set (h : BuildMem w b w va vn ka kn A R C X) (a : Addr) (v : Value) (ha : a.block < b) : BuildMem (w.setCell a v) b (w.setCell a v) va vn ka kn A R C X := by
  refine ⟨⟨Below.refl _ _, heap_set_other h.two.blk (by omega), ownsRow_set h.two.own0 _ _ (fun g hg => by have := (h.two.own0.lt g hg).1; omega), ownsRow_set h.two.own1 _ _ (fun g hg => by have := (h.two.own1.lt g hg).1; omega), h.two.dis⟩, fun i hi => ?_⟩
  exact ownsRow_set (h.rows i hi) _ _ (fun g hg => by have := ((h.rows i hi).lt g hg).1; omega)
/-- Another row of ints, with a base of its own, has grown. -/
theorem BuildMem.grownP (h : BuildMem w b w va vn ka kn A R C X) {base s m : Nat} (hr : w.ownsRow base 3 s vp m x) (hd : ∀ i, i < kn → vp.ownBlock ≠ some (R i)) (hg : w.grownBy w2 vp.ownBlock) : BuildMem w2 b w2 va vn ka kn A R C X := by
  have hsz := heap_lt h.two.blk
  refine ⟨⟨Below.refl _ _, ?_, own_keeps h.two.own0 hr (by decide) hg, own_keeps h.two.own1 hr (by decide) hg, h.two.dis⟩, fun i hi => (h.rows i hi).kept hg (.inr (fun e => hd i hi e.symm))⟩
  rw [hg.block b hsz (fun e => own_blk hr h.two.blk (by decide) b e.symm rfl)]; exact h.two.blk
end

/-- The memory of both: 'at', the pairs, the table that is being made. -/
structure BothMem (W : World) (B b : Nat) (w : World) (n mn : Nat) (ps : List Nat) (vp va vn : Value) (ka kn : Nat) (A : Nat → Bool) (R C : Nat → Nat) (X : Nat → Nat → Nat) : Prop where
  blw : Below B W w
  tab : w.rowIs B 3 mn (fun r => .int .i64 (atv n ps r : Nat))
  own : w.ownsRow (B + 1) 3 1 vp ps.length (ints (ps.map (cv n)))
  bm : BuildMem w b w va vn ka kn A R C X
  dp : ∀ i, i < kn → vp.ownBlock ≠ some (R i)
  hb : B + 1 ≤ b
/-- Beside it the row that is being made. -/
structure BothRow (W : World) (B b : Nat) (w : World) (n mn : Nat) (ps : List Nat) (vp va vn vr : Value) (ka kn c : Nat) (A : Nat → Bool) (R C : Nat → Nat) (X : Nat → Nat → Nat) : Prop where
  mem : BothMem W B b w n mn ps vp va vn ka kn A R C X
  row : w.ownsRow (b + 1) 3 1 vr c (icells (X kn) c)
  dr : ∀ i, i < kn → vr.ownBlock ≠ some (R i)
  dpr : ∀ g, vp.ownBlock = some g → vr.ownBlock = some g → False

section
variable {W : World} {B b : Nat} {w w1 w2 : World} {n mn : Nat} {ps : List Nat} {vp va vn vr : Value} {ka kn c : Nat} {A : Nat → Bool} {R C : Nat → Nat} {X : Nat → Nat → Nat}

theorem BothMem.siz (h : BothMem W B b w n mn ps vp va vn ka kn A R C X) : B < w.heap.size ∧ b < w.heap.size := ⟨h.tab.lt, heap_lt h.bm.two.blk⟩
theorem BothMem.below (h : BothMem W B b w n mn ps vp va vn ka kn A R C X) (hb : Below w.heap.size w w1) : BothMem W B b w1 n mn ps vp va vn ka kn A R C X :=
  ⟨h.blw.trans (hb.mono (by have := h.siz; omega)), h.tab.of_block (hb.block _ h.tab.lt), ownsRow_below h.own hb, (h.bm.below hb).rebase, h.dp, h.hb⟩
theorem BothRow.below (h : BothRow W B b w n mn ps vp va vn vr ka kn c A R C X) (hb : Below w.heap.size w w1) : BothRow W B b w1 n mn ps vp va vn vr ka kn c A R C X :=
  ⟨h.mem.below hb, ownsRow_below h.row hb, h.dr, h.dpr⟩
theorem BothMem.congr (h : BothMem W B b w n mn ps vp va vn ka kn A R C X) {A' : Nat → Bool} {X' : Nat → Nat → Nat} (ha : ∀ i, i < ka → A i = A' i) (hx : ∀ i c, i < kn → c < 8 → X i c = X' i c) : BothMem W B b w n mn ps vp va vn ka kn A' R C X' :=
  ⟨h.blw, h.tab, h.own, h.bm.congr ha hx, h.dp, h.hb⟩
theorem BothRow.congr (h : BothRow W B b w n mn ps vp va vn vr ka kn c A R C X) {A' : Nat → Bool} {X' : Nat → Nat → Nat} (ha : ∀ i, i < ka → A i = A' i) (hx : ∀ i c, i < kn → c < 8 → X i c = X' i c) (hr : ∀ d, d < c → X kn d = X' kn d) : BothRow W B b w n mn ps vp va vn vr ka kn c A' R C X' :=
  ⟨h.mem.congr ha hx, by have := h.row; rw [icells_congr hr] at this; exact this, h.dr, h.dpr⟩

/-- Accept has one part more. -/
theorem BothMem.acc (h : BothMem W B b w n mn ps vp va vn ka kn A R C X) {g cap : Nat} (hown : w2.ownsRow (b + 1) 4 1 (.slice (some ⟨g, 0, none⟩) (ka + 1) cap) (ka + 1) (acells A ka ++ [.bool (A ka)])) (hg : w.grownBy w2 va.ownBlock) (hf : va.ownBlock = some g ∨ g = w.heap.size) :
    BothMem W B b (w2.setCell ⟨b, 0, none⟩ (.slice (some ⟨g, 0, none⟩) (ka + 1) cap)) n mn ps vp (.slice (some ⟨g, 0, none⟩) (ka + 1) cap) vn (ka + 1) kn A R C X := by
  have hs := h.siz
  have hB := h.hb
  have h0 := h.bm.two.own0
  have hown' := own_keeps h.own h0 (by decide) hg
  refine ⟨(h.blw.grown hg (by omega) (fun k e => by have := (h0.lt k e).1; omega)).setCell (by simp; omega) _, (rowIs_grown h.tab hg (fun e => by have := (h0.lt _ e).1; omega)).setOther (by simp; omega) _, ownsRow_set hown' _ _ (fun g' hg' => ?_), (h.bm.acc hown hg hf).rebase, h.dp, h.hb⟩
  exact own_blk hown' (h.bm.two.grown0 hg) (by decide) g' hg'
/-- The row begins. -/
theorem BothMem.row0 (h : BothMem W B b w n mn ps vp va vn ka kn A R C X) : BothRow W B b w n mn ps vp va vn (.slice none 0 0) ka kn 0 A R C X :=
  ⟨h, World.ownsRow_nil _ _ _ _, by intro i _ e; simp [Value.ownBlock] at e, by intro g _ e; simp [Value.ownBlock] at e⟩
/-- The row has one number more. -/
theorem BothRow.put (h : BothRow W B b w n mn ps vp va vn vr ka kn c A R C X) {g cap : Nat} (hown : w2.ownsRow (b + 1) 3 1 (.slice (some ⟨g, 0, none⟩) (c + 1) cap) (c + 1) (icells (X kn) c ++ [.int .i64 ((X kn c : Nat) : Int)])) (hg : w.grownBy w2 vr.ownBlock) (hf : vr.ownBlock = some g ∨ g = w.heap.size) :
    BothRow W B b w2 n mn ps vp va vn (.slice (some ⟨g, 0, none⟩) (c + 1) cap) ka kn (c + 1) A R C X := by
  have hm := h.mem
  have hs := hm.siz
  have hB := hm.hb
  rw [← icells_succ] at hown
  refine ⟨⟨hm.blw.grown hg (by omega) (fun k e => by have := (h.row.lt k e).1; omega), rowIs_grown hm.tab hg (fun e => by have := (h.row.lt _ e).1; omega), own_keeps2 hm.own h.dpr hg, (hm.bm.grown h.row h.dr hg).rebase, hm.dp, hm.hb⟩, hown, ?_, ?_⟩
  · intro i hi e
    simp only [Value.ownBlock, Option.some.injEq] at e
    rcases hf with hf | hf
    · exact h.dr i hi (by rw [hf, e])
    · have := ((hm.bm.rows i hi).lt (R i) rfl).2; omega
  · intro g' h1 h2
    simp only [Value.ownBlock, Option.some.injEq] at h2
    subst h2
    rcases hf with hf | hf
    · exact h.dpr _ h1 hf
    · have := (hm.own.lt _ h1).2; omega
/-- A pair more: the list has grown, 'at' has its number. -/
theorem BothRow.pair (h : BothRow W B b w n mn ps vp va vn vr ka kn c A R C X) {g cap q : Nat} (hq : cv n q ∉ ps.map (cv n)) (hown : w2.ownsRow (B + 1) 3 1 (.slice (some ⟨g, 0, none⟩) (ps.length + 1) cap) (ps.length + 1) (ints (ps.map (cv n)) ++ [.int .i64 ((cv n q : Nat) : Int)])) (hg : w.grownBy w2 vp.ownBlock) (hf : vp.ownBlock = some g ∨ g = w.heap.size) :
    BothRow W B b (w2.setCell ⟨B, cv n q, none⟩ (.int .i64 ((ps.length + 1 : Nat) : Int))) n mn (ps ++ [q]) (.slice (some ⟨g, 0, none⟩) (ps.length + 1) cap) va vn vr ka kn c A R C X := by
  have hm := h.mem
  have hs := hm.siz
  have hB := hm.hb
  rw [ints_snoc] at hown
  have ht := rowIs_grown hm.tab hg (fun e => by have := (hm.own.lt _ e).1; omega)
  have hr := own_keeps2 h.row (fun g' h1 h2 => h.dpr g' h2 h1) hg
  refine ⟨⟨(hm.blw.grown hg (by omega) (fun k e => by have := (hm.own.lt k e).1; omega)).setCell (by simp) _, (ht.set (cv n q) _).congr (fun r _ => ?_), ?_, (hm.bm.grownP hm.own hm.dp hg).set _ _ (by simp; omega), ?_, hm.hb⟩, ownsRow_set hr _ _ (fun g' hg' => by have := (hr.lt g' hg').1; simp; omega), h.dr, ?_⟩
  · rw [atv_new n ps q r hq]
    by_cases e : r = cv n q
    · simp [e]
    · simp [e]
  · have := ownsRow_set hown ⟨B, cv n q, none⟩ (.int .i64 ((ps.length + 1 : Nat) : Int)) (fun g' hg' => by have := (hown.lt g' hg').1; simp; omega)
    simpa using this
  · intro i hi e
    simp only [Value.ownBlock, Option.some.injEq] at e
    rcases hf with hf | hf
    · exact hm.dp i hi (by rw [hf, e])
    · have := ((hm.bm.rows i hi).lt (R i) rfl).2; omega
  · intro g' h1 h2
    simp only [Value.ownBlock, Option.some.injEq] at h1
    subst h1
    rcases hf with hf | hf
    · exact h.dpr _ hf h2
    · have := (h.row.lt _ h2).2; omega
/-- The row is done. -/
theorem BothRow.done {gr cr : Nat} (h : BothRow W B b w n mn ps vp va vn (.slice (some ⟨gr, 0, none⟩) 8 cr) ka kn 8 A R C X) {g cap : Nat}
    (hown : w2.ownsRow (b + 1) 24 1 (.slice (some ⟨g, 0, none⟩) (kn + 1) cap) (kn + 1) (scells R C kn ++ [.slice (some ⟨gr, 0, none⟩) 8 cr])) (hg : w.grownBy w2 vn.ownBlock) (hf : vn.ownBlock = some g ∨ g = w.heap.size) :
    BothMem W B b (w2.setCell ⟨b, 1, none⟩ (.slice (some ⟨g, 0, none⟩) (kn + 1) cap)) n mn ps vp va (.slice (some ⟨g, 0, none⟩) (kn + 1) cap) ka (kn + 1) A (fun i => if i = kn then gr else R i) (fun i => if i = kn then cr else C i) X := by
  have hm := h.mem
  have hs := hm.siz
  have hB := hm.hb
  have h1 := hm.bm.two.own1
  have hown' := own_keeps hm.own h1 (by decide) hg
  refine ⟨(hm.blw.grown hg (by omega) (fun k e => by have := (h1.lt k e).1; omega)).setCell (by simp; omega) _, (rowIs_grown hm.tab hg (fun e => by have := (h1.lt _ e).1; omega)).setOther (by simp; omega) _, ownsRow_set hown' _ _ (fun g' hg' => ?_), (hm.bm.nxt h.row hown hg hf).rebase, ?_, hm.hb⟩
  · exact own_blk hown' (hm.bm.two.grown1 hg) (by decide) g' hg'
  · intro i hi e
    by_cases e' : i = kn
    · simp only [e', if_true] at e; exact h.dpr gr e rfl
    · simp only [if_neg e'] at e; exact hm.dp i (by omega) e
end
end Go.Proofs.YtpngikmcjkjdaaaGreatDoor

namespace Go.Proofs.YtpngikmcjkjdaaaGreatDoor
open Go.RowKit
set_option linter.unusedVariables false

theorem cv_pair {n a b : Nat} (hb : b < 40) : cv n (a * 40 + b) = a * n + b := by
  unfold cv
  rw [show (a * 40 + b) / 40 = a by omega, show (a * 40 + b) % 40 = b by omega]

theorem BothMem.start {W : World} {B n mn : Nat} {A : Nat → Bool} {R C : Nat → Nat} {X : Nat → Nat → Nat} (hWs : W.heap.size = B) :
    BothMem W B (B + 1 + 1) (((W.alloc (.cells ((madeCells #[.int .i64 0] mn).setIfInBounds 0 (.int .i64 1)) 3)).alloc (.cells #[.int .i64 0] 3)).alloc (.cells #[.slice none 0 0, .slice none 0 0] 41)) n mn [0] (.slice (some ⟨B + 1, 0, none⟩) 1 1) (.slice none 0 0) (.slice none 0 0) 0 0 A R C X := by
  subst hWs
  refine ⟨(((Below.refl _ _).alloc (Nat.le_refl _) _).alloc (by simp) _).alloc (by simp; omega) _, ⟨_, heap_at_old (heap_at_old (heap_at_new rfl)), by simp [size_madeCells], fun i hi => ?_⟩, ?_, BuildMem.start (Below.refl _ _) (heap_at_new (by simp)), fun i hi => absurd hi (by omega), by omega⟩
  · by_cases e : i = 0
    · subst e
      rw [Array.getElem?_setIfInBounds_self_of_lt (by simpa [size_madeCells] using hi)]
      simp [atv, cv]
    · rw [Array.getElem?_setIfInBounds_ne (by omega)]
      simp [atv, cv, madeCells, hi, Nat.mod_one, e]
  · have h := World.ownsRow_lit (base := W.heap.size + 1) (e := 3) (size := 1) (W.alloc (.cells ((madeCells #[.int .i64 0] mn).setIfInBounds 0 (.int .i64 1)) 3)) #[.int .i64 0] 1 (by simp) (by decide) rfl
    have h2 := h.alloc (.cells #[.slice none 0 0, .slice none 0 0] 41)
    simpa [ints, cv] using h2

set_option maxRecDepth 20000 in
set_option maxHeartbeats 4000000 in
theorem both_ok : BothOk := by
  intro V U M N how w hM hN hV hU hh0 hh1
  have l1 := hM.lo
  have l2 := hM.hi
  have l3 := hN.lo
  have l4 := hN.hi
  obtain ⟨i3, hi3, hz3, hz31, hz32⟩ := info_parts Tryz.info3
  obtain ⟨i4, hi4, hz4, hz41, hz42⟩ := info_parts Tryz.info4
  obtain ⟨iR, hiR, hzR, hzR1, hzR2⟩ := info_parts Tryz.infoR
  have hmn0 : M.n * N.n ≤ 1600 := by have := Nat.mul_le_mul l2 l4; omega
  have hmn1 : 1 ≤ M.n * N.n := Nat.mul_pos l1 l3
  obtain ⟨mn, HMN⟩ : ∃ x, Hid (M.n * N.n = x) := ⟨_, rfl⟩
  rw [HMN.out] at hmn0 hmn1
  have hmul : (M.n : Int) * (N.n : Int) = (mn : Int) := by rw [← HMN.out]; simp
  have mk1 := run_make_row' (P := Tryz.prog) 24 3 (.int .i64 0) 8 Tryz.underlying24 Tryz.info3 rfl .i64 .i64 mn (by omega) (by omega)
  have hm0 : (madeCells #[.int .i64 0] mn)[0]? = some (.int .i64 0) := by
    have h := madeCells_rowIs (w := w.alloc (.cells (madeCells #[.int .i64 0] mn) 3)) (heap_at_new rfl)
    have := h.cell (i := 0) (by omega)
    simpa using this
  obtain ⟨W, hW⟩ : ∃ W, W = (((w.alloc (.cells #[.slice (some ⟨V.ba, V.oa, none⟩) M.n V.ca, .slice (some ⟨V.bn, V.on, none⟩) M.n V.cn] 41)).alloc (.cells #[.slice (some ⟨U.ba, U.oa, none⟩) N.n U.ca, .slice (some ⟨U.bn, U.on, none⟩) N.n U.cn] 41)).alloc (.cells #[.slice none 0 0, .slice none 0 0] 41)) := ⟨_, rfl⟩
  have BW : Below w.heap.size w W := by
    rw [hW]; exact (((Below.refl _ _).alloc (Nat.le_refl _) _).alloc (by simp) _).alloc (by simp; omega) _
  have hWs : W.heap.size = w.heap.size + 1 + 1 + 1 := by rw [hW]; simp
  have b0 : W.heap[w.heap.size]? = some (.cells #[.slice (some ⟨V.ba, V.oa, none⟩) M.n V.ca, .slice (some ⟨V.bn, V.on, none⟩) M.n V.cn] 41 (0, 0)) := by rw [hW]; exact heap_at_old (heap_at_old (heap_at_new (by simp)))
  have b1 : W.heap[w.heap.size + 1]? = some (.cells #[.slice (some ⟨U.ba, U.oa, none⟩) N.n U.ca, .slice (some ⟨U.bn, U.on, none⟩) N.n U.cn] 41 (0, 0)) := by rw [hW]; exact heap_at_old (heap_at_new (by simp))
  have b2 : W.heap[w.heap.size + 1 + 1]? = some (.cells #[.slice none 0 0, .slice none 0 0] 41 (0, 0)) := by rw [hW]; exact heap_at_new (by simp)
  go_enter Tryz.func82, Tryz.ntmps82
  have P0 := BothMem.start (W := W) (n := N.n) (mn := mn) (A := (pairTab M N how [0]).acc) (R := fun _ => 0) (C := fun _ => 0) (X := pn (succQ M N) [0]) hWs
  have hg0 : goodQ M N 0 := ⟨by omega, by omega⟩
  go_wp2_with fail
  rw [← hW]
  clear hW mk1 hm0
  go_loopw [9, 11, 12, 13, 14, 15, 16, 17] (fun vp k' _ _ _ _ _ _ wr => ∃ (k : Nat) (ps : List Nat) (va vn : Value) (R C : Nat → Nat), k ≤ ps.length ∧ k' = .int .i64 k ∧ BothMem W (w.heap.size + 1 + 1 + 1) (w.heap.size + 1 + 1 + 1 + 1 + 1) wr N.n mn ps vp va vn k k (pairTab M N how ps).acc R C (pn (succQ M N) ps) ∧ PRel (goodQ M N) (succQ M N) ps (8 * k))
    (fun _ k' _ _ _ _ _ _ _ => 1600 - (intOf k').toNat)
  case atStart => exact ⟨0, [0], _, _, _, _, by simp, rfl, P0, PRel.start hg0⟩
  case round =>
    obtain ⟨k, ps, va, vn, R, C, hk, rfl, hP, hR⟩ := hrel
    clear P0
    have hbd := hR.bound hN
    rw [HMN.out] at hbd
    have hlen := hR.len
    have hbw : Below w.heap.size w wr := BW.trans (hP.blw.mono (by omega))
    obtain ⟨x0, x1, _, _⟩ := cell_two ((hP.blw.block _ (by omega)).trans b0)
    obtain ⟨x2, x3, _, _⟩ := cell_two ((hP.blw.block _ (by omega)).trans b1)
    obtain ⟨y0, y1, z0, z1⟩ := cell_two hP.bm.two.blk
    obtain ⟨ap, cp, rfl, hap⟩ := ownsRow_shape hP.own
    obtain ⟨gp, rfl, hcp⟩ := hap (by omega)
    have hszs := hP.siz
    by_cases hlt : k < ps.length
    · have hgq := hR.inr _ (getD_mem ps k hlt)
      have c0 := (ints_at (by simp) hcp) k hlt
      simp only at c0
      rw [show (ps.map (cv N.n)).getD k 0 = cv N.n (ps.getD k 0) by simp [List.getD_eq_getElem?_getD, hlt]] at c0
      obtain ⟨q, HQ⟩ : ∃ x, Hid (ps.getD k 0 = x) := ⟨_, rfl⟩
      simp only [HQ.out] at c0
      rw [HQ.out] at hgq
      have hq1 := cv_div (n := N.n) (q := q) hgq.2
      have hq2 := cv_mod (n := N.n) (q := q) hgq.2
      obtain ⟨cq, HCQ⟩ : ∃ x, Hid (cv N.n q = x) := ⟨_, rfl⟩
      rw [HCQ.out] at c0 hq1 hq2
      obtain ⟨i, Hi⟩ : ∃ x, Hid (q / 40 = x) := ⟨_, rfl⟩
      obtain ⟨j, Hj⟩ : ∃ x, Hid (q % 40 = x) := ⟨_, rfl⟩
      rw [Hi.out] at hq1
      rw [Hj.out] at hq2
      have hin : i < M.n := by rw [← Hi.out]; exact hgq.1
      have hjn : j < N.n := by rw [← Hj.out]; exact hgq.2
      have d1 : Int.tdiv (cq : Int) (N.n : Int) = (i : Int) := by rw [← hq1]; exact (Int.ofNat_tdiv _ _).symm
      have d2 : Int.tmod (cq : Int) (N.n : Int) = (j : Int) := by rw [← hq2]; exact (Int.ofNat_tmod _ _).symm
      have a0 := (hV.below hbw).acc i hin
      have a1 := (hU.below hbw).acc j hjn
      have HP : Hid _ := hP
      have HR : Hid _ := hR
      clear hP hR hap hcp
      go_wp2_with fail
      go_quiet ((go_at_call 125; exact Calls.quiet_of_same (joined_ok _ _ _ _ hh0 hh1)))
      obtain ⟨W3, hW3⟩ : ∃ W3, W3 = (wr.drewN nq) := ⟨_, rfl⟩
      rw [← hW3]
      have hq3 : Below wr.heap.size wr W3 := by rw [hW3]; exact below_drewN (Below.refl _ _) nq
      have hB3 := HP.out.below hq3
      clear hW3 x0 x1 x2 x3 y0 y1 z0 z1 c0 d1 d2 a0 a1 HP hbw
      obtain ⟨jb, HJB⟩ : ∃ x, Hid (joinB how (M.acc i) (N.acc j) = x) := ⟨_, rfl⟩
      rw [HJB.out]
      have HAK : Hid ((pairTab M N how ps).acc k = jb) := by
        unfold Hid pairTab; simp only; rw [HQ.out, Hi.out, Hj.out]; exact HJB.out
      obtain ⟨y0, y1, z0, z1⟩ := cell_two hB3.bm.two.blk
      have HBa : Hid (BothMem W (w.heap.size + 1 + 1 + 1) (w.heap.size + 1 + 1 + 1 + 1 + 1) (W3.alloc (.cells #[.bool jb] 4)) N.n mn ps (.slice (some ⟨gp, 0, none⟩) ps.length cp) va vn k k (pairTab M N how ps).acc R C (pn (succQ M N) ps)) := hB3.below ((Below.refl _ _).alloc (Nat.le_refl _) _)
      have hna := HBa.out.bm.two.own0
      have hsz3 := hB3.siz
      clear hB3
      go_wp2_with (at_builtin; refine wpList_append_fresh _ rfl _ _ 38 rfl ((w.heap.size + 1 + 1 + 1 + 1 + 1) + 1) 4 i4 (.bool false) 1 1 Tryz.underlying38 hi4 hz4 hz41 hz42 rfl (by decide) _ k (acells (pairTab M N how ps).acc k) rfl hna ⟨W3.heap.size, 0, none⟩ 1 1 [.bool jb] rfl rfl (cell_one_new _ _ _) (by intro u hu; simp at hu; subst hu; rfl) (by decide) (by unfold maxLen; omega) (by omega) (by simp; omega) ?_; intro g2 cap2 w2 hown hgr hfr; obtain ⟨f0', f1', f2', f3'⟩ := cell_two (HBa.out.bm.two.grown0 hgr); have HO : Hid _ := hown; have HG : Hid _ := hgr; have HFR : Hid _ := hfr; clear hown hgr hfr)
      have hA := HBa.out.acc (by rw [HAK.out]; exact HO.out) HG.out HFR.out
      have R0 := hA.row0
      clear hA HBa HO HG HFR hna f0' f1' f2' f3' y0 y1 z0 z1 hsz3
      generalize (Value.slice (some ⟨g2, 0, none⟩) (k + 1) cap2) = va' at R0 ⊢
      generalize w2.setCell ⟨(w.heap.size + 1 + 1 + 1 + 1 + 1), 0, none⟩ va' = W4 at R0 ⊢
      clear hgq
      go_loopw [9, 15, 16, 17] (fun vp vr c' _ wr => ∃ (c : Nat) (qs : List Nat), c ≤ 8 ∧ c' = .int .i64 c ∧ k < qs.length ∧ Hid (qs.getD k 0 = q) ∧ PRel (goodQ M N) (succQ M N) qs (8 * k + c) ∧ BothRow W (w.heap.size + 1 + 1 + 1) (w.heap.size + 1 + 1 + 1 + 1 + 1) wr N.n mn qs vp va' vn vr (k + 1) k c (pairTab M N how qs).acc R C (pn (succQ M N) qs))
        (fun _ _ c' _ _ => 8 - (intOf c').toNat)
      case atStart => exact ⟨0, ps, by omega, rfl, hlt, HQ, HR.out, R0⟩
      case round =>
        clear R0 HR HQ hlt hbd hlen hszs
        obtain ⟨c, qs, hc, rfl, hlt, HQ, hR, hP⟩ := hrel
        have hbd := hR.bound hN
        rw [HMN.out] at hbd
        have hlen := hR.len
        have hbW := hP.mem.blw
        have hbw : Below w.heap.size w wr := BW.trans (hbW.mono (by omega))
        obtain ⟨x0, x1, _, _⟩ := cell_two ((hbW.block _ (by omega)).trans b0)
        obtain ⟨x2, x3, _, _⟩ := cell_two ((hbW.block _ (by omega)).trans b1)
        obtain ⟨ap, cp, rfl, hap⟩ := ownsRow_shape hP.mem.own
        obtain ⟨gq, rfl, hcp⟩ := hap (by omega)
        have hszs := hP.mem.siz
        by_cases hl8 : c < 8
        · have y0 := (hV.below hbw).row i hin
          have y1 := (hV.below hbw).cel i c hin hl8
          have y2 := (hU.below hbw).row j hjn
          have y3 := (hU.below hbw).cel j c hjn hl8
          have n1 := hM.nx i c hin hl8
          have n2 := hN.nx j c hjn hl8
          obtain ⟨one, H1⟩ : ∃ x, Hid (M.nxt i c = x) := ⟨_, rfl⟩
          obtain ⟨two, H2⟩ : ∃ x, Hid (N.nxt j c = x) := ⟨_, rfl⟩
          rw [H1.out] at y1 n1
          rw [H2.out] at y3 n2
          have o2 : two < 40 := by omega
          have hgo : goodQ M N (one * 40 + two) := ⟨by omega, by omega⟩
          have HGO : Hid (goodQ M N (one * 40 + two)) := hgo
          have HS1 : Hid (succQ M N (qs.getD ((8 * k + c) / 8) 0) ((8 * k + c) % 8) = one * 40 + two) := by
            unfold Hid succQ; rw [show (8 * k + c) / 8 = k by omega, show (8 * k + c) % 8 = c by omega, HQ.out, Hi.out, Hj.out, H1.out, H2.out]
          have hpl := cv_lt hgo
          rw [HMN.out] at hpl
          have hpv := cv_pair (n := N.n) (a := one) o2
          have h64 : one * N.n ≤ 1600 := by have := Nat.mul_le_mul (show one ≤ 40 by omega) l4; omega
          obtain ⟨pv, HPV⟩ : ∃ x, Hid (cv N.n (one * 40 + two) = x) := ⟨_, rfl⟩
          rw [HPV.out] at hpl hpv
          have e1 : (one : Int) * (N.n : Int) = ((one * N.n : Nat) : Int) := by simp
          have e2 : ((one * N.n : Nat) : Int) + (two : Int) = (pv : Int) := by rw [hpv]; simp
          generalize one * N.n = on at *
          clear hpv
          have t0 := hP.mem.tab.cell (i := pv) hpl
          have t1 := hP.mem.tab.frozen pv
          have hmod : ∀ q ∈ qs, q % 40 < N.n := fun q hq => (hR.inr q hq).2
          have HP : Hid (BothRow W (w.heap.size + 1 + 1 + 1) (w.heap.size + 1 + 1 + 1 + 1 + 1) wr N.n mn qs (.slice (some ⟨gq, 0, none⟩) qs.length cp) va' vn u15 (k + 1) k c (pairTab M N how qs).acc R C (pn (succQ M N) qs)) := hP
          have HR : Hid (PRel (goodQ M N) (succQ M N) qs (8 * k + c)) := hR
          clear hP hR hap hcp hbW hbw hgo
          by_cases hmem : one * 40 + two ∈ qs
          · have hmv := atv_old hmod hmem
            have hil := List.idxOf_lt_length_of_mem hmem
            rw [HPV.out] at hmv
            rw [hmv] at t0
            obtain ⟨ix, HX⟩ : ∃ x, Hid (qs.idxOf (one * 40 + two) = x) := ⟨_, rfl⟩
            rw [HX.out] at t0 hil
            have hpn : Hid (pn (succQ M N) qs k c = ix) := by
              have := HS1.out
              rw [show (8 * k + c) / 8 = k by omega, show (8 * k + c) % 8 = c by omega] at this
              unfold Hid pn; rw [this]; exact HX.out
            have HM : Hid (one * 40 + two ∈ qs) := hmem
            clear hmem hmv hmod
            have mb : (((ix + 1 : Nat) : Int) == 0) = false := by simp; omega
            go_wp2_with fail
            go_quiet (fail)
            obtain ⟨W5, hW5⟩ : ∃ W5, W5 = (wr.drewN nq) := ⟨_, rfl⟩
            rw [← hW5]
            have hq5 : Below wr.heap.size wr W5 := by rw [hW5]; exact below_drewN (Below.refl _ _) nq
            have hP5 := HP.out.below hq5
            clear hW5 x0 x1 x2 x3 y0 y1 y2 y3 t0 t1 HP
            have t0 := hP5.mem.tab.cell (i := pv) hpl
            have hmod : ∀ q ∈ qs, q % 40 < N.n := fun q hq => (HR.out.inr q hq).2
            rw [show atv N.n qs pv = ix + 1 by rw [← HPV.out, atv_old hmod HM.out, HX.out]] at t0
            have HPa : Hid (BothRow W (w.heap.size + 1 + 1 + 1) (w.heap.size + 1 + 1 + 1 + 1 + 1) (W5.alloc (.cells #[.int .i64 (ix : Int)] 3)) N.n mn qs (.slice (some ⟨gq, 0, none⟩) qs.length cp) va' vn u15 (k + 1) k c (pairTab M N how qs).acc R C (pn (succQ M N) qs)) := hP5.below ((Below.refl _ _).alloc (Nat.le_refl _) _)
            have hna := HPa.out.row
            have hs5 := hP5.mem.siz
            have mb2 : ((ix + 1 : Nat) : Int) - 1 = (ix : Int) := by omega
            clear hP5 hmod
            go_wp2_with (at_builtin; refine wpList_append_fresh _ rfl _ _ 24 rfl ((w.heap.size + 1 + 1 + 1 + 1 + 1) + 1) 3 i3 (.int .i64 0) 1 8 Tryz.underlying24 hi3 hz3 hz31 hz32 rfl (by decide) _ c (icells (pn (succQ M N) qs k) c) rfl hna ⟨W5.heap.size, 0, none⟩ 1 1 [.int .i64 (ix : Int)] rfl rfl (cell_one_new _ _ _) (by intro u hu; simp at hu; subst hu; rfl) (by decide) (by unfold maxLen; omega) (by omega) (by simp; omega) ?_; intro g2 cap2 w2 hown hgr hfr; have HO : Hid _ := hown; have HG : Hid _ := hgr; have HFR : Hid _ := hfr; clear hown hgr hfr)
            go_roundw
            case rel =>
              have ho := HO.out
              rw [← hpn.out] at ho
              exact ⟨c + 1, qs, by omega, by go_num, hlt, HQ, HR.out.old (by omega) (by rw [HS1.out]; exact HM.out), HPa.out.put ho HG.out HFR.out⟩
            case measure => simp [intOf]; omega
          · have hmv := atv_none hmod (by omega : (one * 40 + two) % 40 < N.n) hmem
            rw [HPV.out] at hmv
            rw [hmv] at t0
            have HNM : Hid (cv N.n (one * 40 + two) ∉ qs.map (cv N.n)) := fun h' => hmem ((mem_cv hmod (by omega)).1 h')
            have HM : Hid (one * 40 + two ∉ qs) := hmem
            clear hmem hmv hmod
            go_wp2_with fail
            go_quiet (fail)
            obtain ⟨W5, hW5⟩ : ∃ W5, W5 = (wr.drewN nq) := ⟨_, rfl⟩
            rw [← hW5]
            have hq5 : Below wr.heap.size wr W5 := by rw [hW5]; exact below_drewN (Below.refl _ _) nq
            have hP5 := HP.out.below hq5
            have t0' := hP5.mem.tab.cell (i := pv) hpl
            rw [show atv N.n qs pv = 0 by rw [← HPV.out, atv_none (fun q hq => (HR.out.inr q hq).2) (by omega) HM.out]] at t0'
            have hs5 := hP5.mem.siz
            clear hW5 x0 x1 x2 x3 y0 y1 y2 y3 t0 t1 HP
            have HPa : Hid (BothRow W (w.heap.size + 1 + 1 + 1) (w.heap.size + 1 + 1 + 1 + 1 + 1) (W5.alloc (.cells #[.int .i64 (pv : Int)] 3)) N.n mn qs (.slice (some ⟨gq, 0, none⟩) qs.length cp) va' vn u15 (k + 1) k c (pairTab M N how qs).acc R C (pn (succQ M N) qs)) := hP5.below ((Below.refl _ _).alloc (Nat.le_refl _) _)
            have hna := HPa.out.mem.own
            have hcel : Hid (∀ g cap w2, w2.ownsRow ((w.heap.size + 1 + 1 + 1) + 1) 3 1 (.slice (some ⟨g, 0, none⟩) (qs.length + 1) cap) (qs.length + 1) (ints (qs.map (cv N.n)) ++ [.int .i64 (pv : Int)]) →
                (W5.alloc (.cells #[.int .i64 (pv : Int)] 3)).grownBy w2 (Value.slice (some ⟨gq, 0, none⟩) qs.length cp).ownBlock → ((Value.slice (some ⟨gq, 0, none⟩) qs.length cp).ownBlock = some g ∨ g = (W5.alloc (.cells #[.int .i64 (pv : Int)] 3)).heap.size) →
                w2.cell? ⟨(w.heap.size + 1 + 1 + 1), pv, none⟩ = some (.int .i64 0) ∧ w2.frozen? ⟨(w.heap.size + 1 + 1 + 1), pv, none⟩ = false ∧
                Hid (BothRow W (w.heap.size + 1 + 1 + 1) (w.heap.size + 1 + 1 + 1 + 1 + 1) (w2.setCell ⟨(w.heap.size + 1 + 1 + 1), pv, none⟩ (.int .i64 ((qs.length : Int) + 1))) N.n mn (qs ++ [one * 40 + two]) (.slice (some ⟨g, 0, none⟩) (qs.length + 1) cap) va' vn u15 (k + 1) k c (pairTab M N how qs).acc R C (pn (succQ M N) qs))) := by
              intro g cap w2 ho hg hf
              have ht := rowIs_grown HPa.out.mem.tab hg (fun e => by have := (HPa.out.mem.own.lt _ e).1; omega)
              have ho2 := ho
              rw [← HPV.out] at ho2
              have hp := HPa.out.pair HNM.out ho2 hg hf
              rw [HPV.out] at hp
              refine ⟨?_, ht.frozen _, ?_⟩
              · rw [ht.cell hpl, ← HPV.out, atv_none (fun q hq => (HR.out.inr q hq).2) (by omega) HM.out]; rfl
              · rw [show ((qs.length + 1 : Nat) : Int) = (qs.length : Int) + 1 by simp] at hp; exact hp
            clear hP5
            go_upto_region 21 with (at_builtin; refine wpList_append_fresh _ rfl _ _ 24 rfl ((w.heap.size + 1 + 1 + 1) + 1) 3 i3 (.int .i64 0) 1 8 Tryz.underlying24 hi3 hz3 hz31 hz32 rfl (by decide) _ qs.length (ints (qs.map (cv N.n))) rfl hna ⟨W5.heap.size, 0, none⟩ 1 1 [.int .i64 (pv : Int)] rfl rfl (cell_one_new _ _ _) (by intro u hu; simp at hu; subst hu; rfl) (by decide) (by unfold maxLen; omega) (by omega) (by simp; omega) ?_; intro g2 cap2 w2 hown hgr hfr; obtain ⟨f0, f1, HN⟩ := hcel.out g2 cap2 w2 hown hgr hfr; clear hown hgr hfr)
            clear hcel HPa hna t0' f0 f1 HNM
            obtain ⟨W6, hW6⟩ : ∃ W6, W6 = w2.setCell ⟨(w.heap.size + 1 + 1 + 1), pv, none⟩ (.int .i64 ((qs.length : Int) + 1)) := ⟨_, rfl⟩
            rw [← hW6] at HN ⊢
            clear hW6
            have hnm : succQ M N (qs.getD ((8 * k + c) / 8) 0) ((8 * k + c) % 8) ∉ qs := by rw [HS1.out]; exact HM.out
            have hnew := HR.out.new (by omega) hnm (by rw [HS1.out]; exact HGO.out)
            rw [HS1.out] at hnew
            have HPN : Hid (pn (succQ M N) (qs ++ [one * 40 + two]) k c = qs.length) := by
              have := HS1.out
              rw [show (8 * k + c) / 8 = k by omega, show (8 * k + c) % 8 = c by omega] at this
              unfold Hid
              simp only [pn]
              rw [getD_app _ _ _ hlt, this, List.idxOf_append, if_neg HM.out]; simp
            have hN := HN.out.congr (A' := (pairTab M N how (qs ++ [one * 40 + two])).acc) (X' := pn (succQ M N) (qs ++ [one * 40 + two])) (fun x hx => by
                simp only [pairTab]; rw [getD_app _ _ _ (by omega)]) (fun x d hx hd => (pn_new HR.out x d hd (by omega)).symm) (fun d hd => (pn_new HR.out k d (by omega) (by omega)).symm)
            have HR2 : Hid _ := hnew
            have t0 := hN.mem.tab.cell (i := pv) hpl
            rw [show atv N.n (qs ++ [one * 40 + two]) pv = qs.length + 1 by
              rw [← HPV.out, atv_old (fun q hq => (hnew.inr q hq).2) (by simp), List.idxOf_append, if_neg HM.out]; simp] at t0
            have hs6 := hN.mem.siz
            have HPa : Hid (BothRow W (w.heap.size + 1 + 1 + 1) (w.heap.size + 1 + 1 + 1 + 1 + 1) (W6.alloc (.cells #[.int .i64 (qs.length : Int)] 3)) N.n mn (qs ++ [one * 40 + two]) (.slice (some ⟨g2, 0, none⟩) (qs.length + 1) cap2) va' vn u15 (k + 1) k c (pairTab M N how (qs ++ [one * 40 + two])).acc R C (pn (succQ M N) (qs ++ [one * 40 + two]))) := hN.below ((Below.refl _ _).alloc (Nat.le_refl _) _)
            have hna := HPa.out.row
            have mb2 : ((qs.length + 1 : Nat) : Int) - 1 = (qs.length : Int) := by omega
            clear hN HN hnew hnm
            go_wp2_with (at_builtin; refine wpList_append_fresh _ rfl _ _ 24 rfl ((w.heap.size + 1 + 1 + 1 + 1 + 1) + 1) 3 i3 (.int .i64 0) 1 8 Tryz.underlying24 hi3 hz3 hz31 hz32 rfl (by decide) _ c (icells (pn (succQ M N) (qs ++ [one * 40 + two]) k) c) rfl hna ⟨W6.heap.size, 0, none⟩ 1 1 [.int .i64 (qs.length : Int)] rfl rfl (cell_one_new _ _ _) (by intro u hu; simp at hu; subst hu; rfl) (by decide) (by unfold maxLen; omega) (by omega) (by simp; omega) ?_; intro g3 cap3 w3 hown hgr hfr; have HO : Hid _ := hown; have HG : Hid _ := hgr; have HFR : Hid _ := hfr; clear hown hgr hfr)
            go_roundw
            case rel =>
              have ho := HO.out
              rw [← HPN.out] at ho
              refine ⟨c + 1, (qs ++ [one * 40 + two]), by omega, by go_num, by simp; omega, by unfold Hid; rw [getD_app _ _ _ hlt]; exact HQ.out, HR2.out, ?_⟩
              simpa using HPa.out.put ho HG.out HFR.out
            case measure => simp [intOf]; omega
        · have he : c = 8 := by omega
          subst he
          obtain ⟨ar, cr', rfl, har⟩ := ownsRow_shape hP.row
          obtain ⟨gr, rfl, _⟩ := har (by omega)
          obtain ⟨y0, y1, _, _⟩ := cell_two hP.mem.bm.two.blk
          have HBi : Hid (BothRow W (w.heap.size + 1 + 1 + 1) (w.heap.size + 1 + 1 + 1 + 1 + 1) (wr.alloc (.cells #[.slice (some ⟨gr, 0, none⟩) 8 cr'] 24)) N.n mn qs (.slice (some ⟨gq, 0, none⟩) qs.length cp) va' vn (.slice (some ⟨gr, 0, none⟩) 8 cr') (k + 1) k 8 (pairTab M N how qs).acc R C (pn (succQ M N) qs)) := hP.below ((Below.refl _ _).alloc (Nat.le_refl _) _)
          have hna := HBi.out.mem.bm.two.own1
          have HR : Hid (PRel (goodQ M N) (succQ M N) qs (8 * k + 8)) := hR
          clear hP hR hap hcp har hbw hbW x0 x1 x2 x3
          go_wp2_with (at_builtin; refine wpList_append_fresh _ rfl _ _ 39 rfl ((w.heap.size + 1 + 1 + 1 + 1 + 1) + 1) 24 iR (.slice none 0 0) 1 24 Tryz.underlying39 hiR hzR hzR1 hzR2 rfl (by decide) _ k (scells R C k) rfl hna ⟨wr.heap.size, 0, none⟩ 1 1 [.slice (some ⟨gr, 0, none⟩) 8 cr'] rfl rfl (cell_one_new _ _ _) (by intro u hu; simp at hu; subst hu; rfl) (by decide) (by unfold maxLen; omega) (by omega) (by simp; omega) ?_; intro g2 cap2 w2 hown hgr hfr; obtain ⟨f0', f1', f2', f3'⟩ := cell_two (HBi.out.mem.bm.two.grown1 hgr); have HO : Hid _ := hown; have HG : Hid _ := hgr; have HFR : Hid _ := hfr; clear hown hgr hfr)
          go_roundw
          case rel =>
            exact ⟨k + 1, qs, _, _, _, _, by omega, by go_num, HBi.out.done HO.out HG.out HFR.out, by rw [show 8 * (k + 1) = 8 * k + 8 by omega]; exact HR.out⟩
          case measure => simp [intOf]; omega
    · have he : k = ps.length := by omega
      subst he
      obtain ⟨Z, rfl, rfl, hT, hFr⟩ := hP.bm.done (N := pairTab M N how ps) (by omega) rfl (fun i hi => rfl) (fun i c hi hc => rfl)
      have hq : wr.heap[w.heap.size + 1 + 1]? = some (.cells #[.slice none 0 0, .slice none 0 0] 41 (0, 0)) := (hP.blw.block _ (by omega)).trans b2
      obtain ⟨q0, q1, p0, p1⟩ := cell_two hq
      have HT : Hid (TabAt wr Z (pairTab M N how ps)) := hT
      have HB : Hid _ := hbw
      have HR : Hid _ := hR
      have HFr : Hid (Z.From ((w.heap.size + 1 + 1 + 1 + 1 + 1) + 1) ps.length) := hFr
      clear hP hT hR hap hcp hFr hbw x0 x1 x2 x3
      go_wp2_with fail
      obtain ⟨r1, r2, r3⟩ := res_two (u := .slice (some ⟨Z.ba, Z.oa, none⟩) ps.length Z.ca) (v := .slice (some ⟨Z.bn, Z.on, none⟩) ps.length Z.cn) hq
      refine bodyPost_ret (v := .agg #[.slice (some ⟨Z.ba, Z.oa, none⟩) ps.length Z.ca, .slice (some ⟨Z.bn, Z.on, none⟩) ps.length Z.cn]) (by simp [results, Tryz.results82, go_sem, r2, r3]) rfl ?_
      exact ⟨below_res HB.out (by omega) _ _, ps, Z, HR.out, rfl, HT.out.res HFr.out (by omega) _ _⟩
end Go.Proofs.YtpngikmcjkjdaaaGreatDoor
