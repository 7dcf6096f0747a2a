import Derived.Test.YtpngikmcjkjdaabG1
import Derived.Test.YtpngikmcjkjdaabG3
import Derived.Test.YtpngikmcjkjdaabG4
set_option linter.unusedVariables false
set_option linter.unusedSimpArgs false
namespace Go.Proofs.Ytpngikmcjkjdaab
open Go.RowKit
set_option linter.unusedVariables false
set_option linter.unusedSimpArgs false
def hearR (t : Nat → Nat) (K : Nat) (x : List Nat) : Nat → Nat := x.foldl (fun r c => nHear t K r c) (nBegin K)
section
variable {t : Nat → Nat} {K : Nat}
theorem hearR_snoc (x : List Nat) (c : Nat) : hearR t K (x ++ [c]) = nHear t K (hearR t K x) c := by unfold hearR; rw [List.foldl_append]; rfl
structure RowI (K p : Nat) (r : Nat → Nat) : Prop where
  cap : ∀ i, r i ≤ K + 1
  low : ∀ i, K + 1 ≤ r i ∨ (i ≤ p + r i ∧ p ≤ i + r i)
  up : ∀ i, r (i + 1) ≤ r i + 1
  down : ∀ i, r i ≤ r (i + 1) + 1
theorem rowI_begin : RowI K 0 (nBegin K) := ⟨fun i => by unfold nBegin; omega, fun i => by unfold nBegin; omega, fun i => by unfold nBegin; omega, fun i => by unfold nBegin; omega⟩
theorem nHear_old (r : Nat → Nat) (c i : Nat) : nHear t K r c i ≤ r i + 1 := by
  cases i with
  | zero => simp only [nHear]; omega
  | succ i => simp only [nHear]; omega
theorem rowI_hear {p c : Nat} {r : Nat → Nat} (h : RowI K p r) : RowI K (p + 1) (nHear t K r c) where
  cap i := nHear_le t K r c i
  low i := by
    induction i with
    | zero =>
      have := h.low 0
      simp only [nHear]
      omega
    | succ i ih =>
      have h1 := h.low (i + 1)
      have h2 := h.low i
      simp only [nHear]
      split <;> omega
  up i := by
    have : nHear t K r c (i + 1) = min (min (min (r (i + 1) + 1) (nHear t K r c i + 1)) (if t i = c then r i else r i + 1)) (K + 1) := rfl
    rw [this]
    omega
  down i := by
    have h1 := nHear_old (t := t) (K := K) r c i
    have h2 := h.down i
    have h3 := nHear_le t K r c i
    have : nHear t K r c (i + 1) = min (min (min (r (i + 1) + 1) (nHear t K r c i + 1)) (if t i = c then r i else r i + 1)) (K + 1) := rfl
    rw [this]
    split <;> omega
theorem rowI_of (x : List Nat) : ∀ (p : Nat) (r : Nat → Nat), RowI K p r → RowI K (p + x.length) (x.foldl (fun r c => nHear t K r c) r) := by
  induction x with
  | nil => intro p r h; exact h
  | cons c x ih =>
    intro p r h
    have := ih (p + 1) _ (rowI_hear (t := t) (c := c) h)
    rw [List.length_cons, show p + (x.length + 1) = p + 1 + x.length by omega]
    exact this
theorem hearR_row (x : List Nat) : RowI K x.length (hearR t K x) := by
  have := rowI_of (t := t) x 0 _ (rowI_begin (K := K))
  rw [Nat.zero_add] at this
  exact this
theorem hear_zero (r : Nat → Nat) (c i : Nat) : nHear t K r c i = 0 ↔ ∃ j, i = j + 1 ∧ t j = c ∧ r j = 0 := by
  cases i with
  | zero =>
    simp only [nHear]
    constructor
    · intro h; omega
    · rintro ⟨j, e, _⟩; omega
  | succ i =>
    simp only [nHear]
    constructor
    · intro h
      by_cases e : t i = c
      · rw [if_pos e] at h; exact ⟨i, rfl, e, by omega⟩
      · rw [if_neg e] at h; omega
    · rintro ⟨j, e, h1, h2⟩
      obtain rfl : i = j := by omega
      rw [if_pos h1, h2]
      omega
theorem snoc_ind {P : List Nat → Prop} (h0 : P []) (hs : ∀ x c, P x → P (x ++ [c])) (x : List Nat) : P x := by
  rw [← List.reverse_reverse x]
  induction x.reverse with
  | nil => exact h0
  | cons c y ih => rw [List.reverse_cons]; exact hs _ _ ih
theorem hearR_zero (x : List Nat) : ∀ i, hearR t K x i = 0 ↔ x = (List.range i).map t := by
  refine snoc_ind (P := fun x => ∀ i, hearR t K x i = 0 ↔ x = (List.range i).map t) ?_ ?_ x
  · intro i
    show nBegin K i = 0 ↔ _
    unfold nBegin
    cases i with
    | zero => simp
    | succ i => simp [List.range_succ]
  · intro x c ih i
    rw [hearR_snoc, hear_zero]
    constructor
    · rintro ⟨j, rfl, h1, h2⟩
      rw [List.range_succ, List.map_append, ← (ih j).1 h2, ← h1]
      rfl
    · intro h
      cases i with
      | zero => simp at h
      | succ j =>
        rw [List.range_succ, List.map_append] at h
        have h' := List.append_inj' h rfl
        simp at h'
        exact ⟨j, rfl, h'.2.symm, (ih j).2 h'.1⟩
def Near1 (r r' : Nat → Nat) : Prop := ∀ i, r i ≤ r' i + 1
theorem near1_hear {r r' : Nat → Nat} (h : Near1 r r') (c : Nat) : Near1 (nHear t K r c) (nHear t K r' c) := fun i => by
  induction i with
  | zero => have := h 0; simp only [nHear]; omega
  | succ i ih =>
    have h1 := h i
    have h2 := h (i + 1)
    simp only [nHear]
    split <;> omega
theorem near1_all {r r' : Nat → Nat} (h : Near1 r r') (v : List Nat) : Near1 (v.foldl (fun r c => nHear t K r c) r) (v.foldl (fun r c => nHear t K r c) r') := by
  induction v generalizing r r' with
  | nil => exact h
  | cons c v ih => exact ih (near1_hear h c)
theorem near1_del {p c : Nat} {r : Nat → Nat} (h : RowI K p r) : Near1 r (nHear t K r c) := fun i => by
  induction i with
  | zero => have := h.cap 0; simp only [nHear]; omega
  | succ i ih =>
    have h1 := h.up i
    have h2 := h.cap (i + 1)
    simp only [nHear]
    split <;> omega
theorem near1_put (r : Nat → Nat) (c d : Nat) : Near1 (nHear t K r c) (nHear t K r d) := fun i => by
  induction i with
  | zero => simp only [nHear]; omega
  | succ i ih =>
    simp only [nHear]
    split <;> split <;> omega
theorem hearR_app (u v : List Nat) : hearR t K (u ++ v) = v.foldl (fun r c => nHear t K r c) (hearR t K u) := by unfold hearR; rw [List.foldl_append]
theorem change_ins (u v : List Nat) (n : Nat) : Near1 (hearR t K (u ++ n :: v)) (hearR t K (u ++ v)) := by
  rw [hearR_app, hearR_app, List.foldl_cons]
  exact near1_all (fun i => nHear_old _ _ _) v
theorem change_del (u v : List Nat) (n : Nat) : Near1 (hearR t K (u ++ v)) (hearR t K (u ++ n :: v)) := by
  rw [hearR_app, hearR_app, List.foldl_cons]
  exact near1_all (near1_del (hearR_row u)) v
theorem change_put (u v : List Nat) (n m : Nat) : Near1 (hearR t K (u ++ n :: v)) (hearR t K (u ++ m :: v)) := by
  rw [hearR_app, hearR_app, List.foldl_cons, List.foldl_cons]
  exact near1_all (near1_put _ _ _) v
end
namespace Ear
variable {E : Ear}
theorem row_hear (h : E.most ≤ 2) (x : List Nat) : ∀ i, i ≤ E.m → E.row (x.foldl E.succ 0) i = hearR E.t E.most x i := by
  refine snoc_ind (P := fun x => ∀ i, i ≤ E.m → E.row (x.foldl E.succ 0) i = hearR E.t E.most x i) ?_ ?_ x
  · intro i hi; exact row_zero h hi
  · intro x c ih i hi
    rw [List.foldl_append, List.foldl_cons, List.foldl_nil, row_succ h _ _ hi, hearR_snoc]
    exact nHear_congr (fun j hj => ih j (by omega))
theorem lang_hear (h : E.most ≤ 2) (x : List Nat) : E.lang x = true ↔ hearR E.t E.most x E.m ≤ E.most := by
  unfold lang
  rw [decide_eq_true_iff, row_hear h x E.m (Nat.le_refl _)]
theorem lang_len (h : E.most ≤ 2) {x : List Nat} (hl : E.lang x = true) : E.m ≤ x.length + E.most ∧ x.length ≤ E.m + E.most := by
  have h1 := (lang_hear h x).1 hl
  have h2 := (hearR_row (t := E.t) (K := E.most) x).low E.m
  omega
theorem lang_zero (h : E.most = 0) (x : List Nat) : E.lang x = true ↔ x = (List.range E.m).map E.t := by
  rw [lang_hear (by omega), h, ← hearR_zero (K := 0)]
  omega
def Fine (E : Ear) (q : Nat) : Prop := E.good q ∧ ∃ p r, RowI E.most p r ∧ ∀ i, i ≤ E.m → E.row q i = r i
theorem fine_zero (h : E.most ≤ 2) : E.Fine 0 := ⟨good_zero, 0, _, rowI_begin, fun i hi => row_zero h hi⟩
theorem fine_succ (h : E.most ≤ 2) {q : Nat} (hq : E.Fine q) (c : Nat) : E.Fine (E.succ q c) := by
  obtain ⟨h1, p, r, h2, h3⟩ := hq
  exact ⟨succ_good h q c, p + 1, _, rowI_hear (t := E.t) (c := c) h2, fun i hi => by rw [row_succ h q c hi]; exact nHear_congr (fun j hj => h3 j (by omega))⟩
def form (K k i : Nat) : Nat := if k < 7 then min (if i ≤ k then k - i else i - k) (K + 1) else if k < 35 then (if i = (k - 7) / 4 ∨ (i = (k - 7) / 4 + 1 ∧ (k - 7) % 2 = 1) ∨ (i = (k - 7) / 4 + 2 ∧ (k - 7) / 2 % 2 = 1) then 1 else K + 1) else K + 1
theorem chain_up {K p : Nat} {r : Nat → Nat} (h : RowI K p r) (j : Nat) : ∀ d, r (j + d) ≤ r j + d
  | 0 => Nat.le_refl _
  | d + 1 => by
    have h1 := chain_up h j d
    have h2 := h.up (j + d)
    show r (j + d + 1) ≤ r j + (d + 1)
    omega
theorem chain_down {K p : Nat} {r : Nat → Nat} (h : RowI K p r) (j : Nat) : ∀ d, r j ≤ r (j + d) + d
  | 0 => Nat.le_refl _
  | d + 1 => by
    have h1 := chain_down h j d
    have h2 := h.down (j + d)
    show r j ≤ r (j + d + 1) + (d + 1)
    omega
theorem first_ix {P : Nat → Prop} (n : Nat) (h : P n) : ∃ i, i ≤ n ∧ P i ∧ ∀ j, j < i → ¬ P j := by
  induction n using Nat.strongRecOn with
  | ind n ih =>
    by_cases e : ∃ m, m < n ∧ P m
    · obtain ⟨m, h1, h2⟩ := e
      obtain ⟨i, h3, h4, h5⟩ := ih m h1 h2
      exact ⟨i, by omega, h4, h5⟩
    · exact ⟨n, Nat.le_refl _, h, fun j hj hp => e ⟨j, hj, hp⟩⟩
theorem form_of {K p m : Nat} {r : Nat → Nat} (h : RowI K p r) (hK : K ≤ 1) (hm : m ≤ 6) : ∃ k, k < 36 ∧ ∀ i, i ≤ m → r i = form K k i := by
  by_cases h0 : ∃ j, j ≤ m ∧ r j = 0
  · obtain ⟨j, hj, e⟩ := h0
    refine ⟨j, by omega, fun i hi => ?_⟩
    have hp := h.low j
    have hl := h.low i
    have hc := h.cap i
    unfold form
    rw [if_pos (by omega)]
    by_cases hij : i ≤ j
    · have hd := chain_down h i (j - i)
      rw [show i + (j - i) = j by omega] at hd
      rw [if_pos hij]
      omega
    · have hu := chain_up h j (i - j)
      rw [show j + (i - j) = i by omega] at hu
      rw [if_neg hij]
      omega
  · have hpos : ∀ i, i ≤ m → 1 ≤ r i := fun i hi => by
      refine Classical.byContradiction fun hn => h0 ⟨i, hi, by omega⟩
    by_cases h1 : ∃ j, j ≤ m ∧ r j ≤ K
    · obtain ⟨n, hn, e⟩ := h1
      obtain ⟨j, hj, ⟨hjm, ej⟩, hmin⟩ := first_ix (P := fun j => j ≤ m ∧ r j ≤ K) n ⟨hn, e⟩
      have hK1 : K = 1 := by have := hpos j hjm; omega
      subst hK1
      have ej1 : r j = 1 := by have := hpos j hjm; omega
      obtain ⟨b1, hb1, hb1'⟩ : ∃ b, b < 2 ∧ (b = 1 ↔ (j + 1 ≤ m ∧ r (j + 1) = 1)) := by
        by_cases e1 : j + 1 ≤ m ∧ r (j + 1) = 1
        · exact ⟨1, by omega, by simp [e1]⟩
        · exact ⟨0, by omega, by simp [e1]⟩
      obtain ⟨b2, hb2, hb2'⟩ : ∃ b, b < 2 ∧ (b = 1 ↔ (j + 2 ≤ m ∧ r (j + 2) = 1)) := by
        by_cases e1 : j + 2 ≤ m ∧ r (j + 2) = 1
        · exact ⟨1, by omega, by simp [e1]⟩
        · exact ⟨0, by omega, by simp [e1]⟩
      refine ⟨7 + 4 * j + b1 + 2 * b2, by omega, fun i hi => ?_⟩
      unfold form
      rw [if_neg (by omega), if_pos (by omega), show (7 + 4 * j + b1 + 2 * b2 - 7) / 4 = j by omega, show (7 + 4 * j + b1 + 2 * b2 - 7) % 2 = b1 by omega, show (7 + 4 * j + b1 + 2 * b2 - 7) / 2 % 2 = b2 by omega]
      have hlj := h.low j
      have hli := h.low i
      have hci := h.cap i
      have hpi := hpos i hi
      by_cases c0 : i = j
      · rw [if_pos (.inl c0), c0, ej1]
      · by_cases c1 : i = j + 1
        · subst c1
          by_cases d : r (j + 1) = 1
          · rw [if_pos (.inr (.inl ⟨rfl, hb1'.2 ⟨hi, d⟩⟩)), d]
          · rw [if_neg (by
              rintro (e | ⟨_, e⟩ | ⟨e, _⟩)
              · omega
              · exact d (hb1'.1 e).2
              · omega)]
            omega
        · by_cases c2 : i = j + 2
          · subst c2
            by_cases d : r (j + 2) = 1
            · rw [if_pos (.inr (.inr ⟨rfl, hb2'.2 ⟨hi, d⟩⟩)), d]
            · rw [if_neg (by
                rintro (e | ⟨e, _⟩ | ⟨_, e⟩)
                · omega
                · omega
                · exact d (hb2'.1 e).2)]
              omega
          · rw [if_neg (by omega)]
            by_cases hlt : i < j
            · have := hmin i hlt
              have : ¬ r i ≤ 1 := fun e => this ⟨hi, e⟩
              omega
            · omega
    · refine ⟨35, by omega, fun i hi => ?_⟩
      unfold form
      rw [if_neg (by omega), if_neg (by omega)]
      have : ¬ r i ≤ K := fun e => h1 ⟨i, hi, e⟩
      have := h.cap i
      omega
theorem fine_bound {ps : List Nat} {p : Nat} (hK : E.most ≤ 1) (hm : E.m ≤ 6) (h : PRel E.Fine E.succ ps p) : ps.length ≤ 36 := by
  have hf : ∀ q, ∃ k, E.Fine q → k < 36 ∧ ∀ i, i ≤ E.m → E.row q i = form E.most k i := fun q => by
    by_cases hq : E.Fine q
    · obtain ⟨h1, p, r, h2, h3⟩ := hq
      obtain ⟨k, hk, hr⟩ := form_of h2 hK hm
      exact ⟨k, fun _ => ⟨hk, fun i hi => (h3 i hi).trans (hr i hi)⟩⟩
    · exact ⟨0, fun e => absurd e hq⟩
  have hn : (ps.map fun q => Classical.choose (hf q)).Nodup := by
    unfold List.Nodup
    rw [List.pairwise_map]
    refine List.Pairwise.imp_of_mem (fun {a b} ha hb hab e => hab ?_) h.nd
    have h1 := Classical.choose_spec (hf a) (h.inr a ha)
    have h2 := Classical.choose_spec (hf b) (h.inr b hb)
    exact row_inj (by omega) (h.inr a ha).1 (h.inr b hb).1 (fun i hi => by rw [h1.2 i hi, h2.2 i hi, e])
  have := nodup_bound 36 _ hn (fun x hx => by
    obtain ⟨q, hq, rfl⟩ := List.mem_map.1 hx
    exact (Classical.choose_spec (hf q) (h.inr q hq)).1)
  rw [List.length_map] at this
  exact this
theorem prel_shut {good : Nat → Prop} {S : Nat → Nat → Nat} {B : Nat} (hb : ∀ ps p, PRel good S ps p → ps.length ≤ B) (hs : ∀ q c, good q → good (S q c)) : ∀ (k : Nat) (ps : List Nat) (p : Nat), PRel good S ps p → p ≤ 8 * ps.length → 8 * B - p ≤ k → ∃ qs, PRel good S qs (8 * qs.length) := by
  intro k
  induction k with
  | zero =>
    intro ps p h hp hk
    have := hb ps p h
    exact ⟨ps, by rw [show 8 * ps.length = p by omega]; exact h⟩
  | succ k ih =>
    intro ps p h hp hk
    by_cases he : p = 8 * ps.length
    · exact ⟨ps, by rw [← he]; exact h⟩
    · have hbb := hb ps p h
      have hlt : p / 8 < ps.length := by omega
      by_cases hq : S (ps.getD (p / 8) 0) (p % 8) ∈ ps
      · exact ih ps (p + 1) (h.old hlt hq) (by omega) (by omega)
      · exact ih _ (p + 1) (h.new hlt hq (hs _ _ (h.inr _ (getD_mem ps (p / 8) hlt)))) (by simp; omega) (by omega)
theorem small_tab (hK : E.most ≤ 1) (hm : E.m ≤ 6) : ∃ M : Tab, M.Ok ∧ ∀ x, Notes x → M.accepts x = E.lang x := by
  obtain ⟨qs, h⟩ := prel_shut (fun ps p h => fine_bound hK hm h) (fun q c hq => fine_succ (by omega) hq c) (8 * 36) [0] 0 (PRel.start (fine_zero (by omega))) (by simp) (by omega)
  have hg : PRel E.good E.succ qs (8 * qs.length) := ⟨h.len, h.hd, h.nd, fun q hq => (h.inr q hq).1, h.clo, h.num, h.row, h.cm⟩
  have hnum := numbered hg
  have hb := fine_bound hK hm h
  exact ⟨E.tab qs, ⟨h.len, by show qs.length ≤ 40; omega, hnum.nx⟩, fun x hx => tab_accepts hg x hx⟩
end Ear
end Go.Proofs.Ytpngikmcjkjdaab

namespace Go.Proofs.Ytpngikmcjkjdaab
open Go.RowKit
set_option linter.unusedVariables false
theorem conv_note (pv : Nat) (h : pv < 8) (u : World) : Sem.run Try.prog (convert 70 9 (.slice (some ⟨u.heap.size, 0, none⟩) 1 1)) (u.alloc (.cells #[.int .u8 (97 + (pv : Int))] 5)) =
    .ok (.string ⟨#[noteB pv]⟩) (u.alloc (.cells #[.int .u8 (97 + (pv : Int))] 5)) := by
  have h1 := run_convert_bytes_back (P := Try.prog) (u.alloc (.cells #[.int .u8 (97 + (pv : Int))] 5)) 70 9 5 ⟨u.heap.size, 0, none⟩ 1 [noteB pv] Try.underlying70 Try.underlying5 Try.underlying9 (by
    intro j hj
    have : j = 0 := by simp at hj; omega
    subst this
    have := cell_one_new u (.int .u8 (97 + (pv : Int))) 5 0 _ rfl
    rw [this]
    simp only [List.getElem_cons_zero, toNat_note pv h]
    rfl)
  exact h1
end Go.Proofs.Ytpngikmcjkjdaab

namespace Go.Proofs.Ytpngikmcjkjdaab
open Go.RowKit
set_option linter.unusedVariables false
set_option linter.unusedSimpArgs false
def pickN (c : Int) (n : Nat) : Nat := ((if c < 0 then -(c + 1) else c) % n).toNat
theorem pickN_lt (c : Int) (n : Nat) (h : 0 < n) : pickN c n < n := by
  unfold pickN
  have h1 := Int.emod_lt_of_pos (if c < 0 then -(c + 1) else c) (b := (n : Int)) (by omega)
  have h2 := Int.emod_nonneg (if c < 0 then -(c + 1) else c) (b := (n : Int)) (by omega)
  omega
theorem neg_tmod_emod (c n : Int) (h : c < 0) : -((c + 1).tmod n) = (-(c + 1)) % n := by
  rw [← Int.neg_tmod, Int.tmod_eq_emod_of_nonneg (by omega)]
set_option maxRecDepth 20000 in
set_option maxHeartbeats 400000 in
theorem pick_any (c : Int) (n : Int) (w : World) (h1 : 1 ≤ n) (h2 : n ≤ 1099511627776) (hc1 : -9223372036854775808 ≤ c) (hc2 : c ≤ 9223372036854775807) :
    Calls Try.prog 17 #[.int .i64 c, .int .i64 n] w fun e w' => e = .returned (.int .i64 (pickN c n.toNat)) ∧ w' = w := by
  have hn : ((n.toNat : Nat) : Int) = n := by omega
  by_cases h : c < 0
  · have he : ((pickN c n.toNat : Nat) : Int) = (-(c + 1)) % n := by
      unfold pickN; rw [if_pos h, hn]; have := Int.emod_nonneg (-(c+1)) (b := n) (by omega); omega
    rw [he]
    clear he hn
    go_enter Try.func17, Try.ntmps17
    go_wp2
    go_ret
    exact ⟨ret_int (neg_tmod_emod c n h), rfl⟩
  · have he : ((pickN c n.toNat : Nat) : Int) = c % n := by
      unfold pickN; rw [if_neg h, hn]; have := Int.emod_nonneg c (b := n) (by omega); omega
    rw [he]
    clear he hn
    go_enter Try.func17, Try.ntmps17
    go_wp2
    go_ret
    exact ⟨rfl, rfl⟩
structure CodeAt (w : World) (ao : Option Addr) (len : Nat) (z : Nat → Int) : Prop where
  ln : len ≤ 9223372036854775807
  cell : ∀ t, t < len → ∃ b o, ao = some ⟨b, o, none⟩ ∧ w.cell? ⟨b, o + t, none⟩ = some (.int .i64 (z t))
  rng : ∀ t, t < len → -9223372036854775808 ≤ z t ∧ z t ≤ 9223372036854775807
theorem CodeAt.below {w w' : World} {ao : Option Addr} {len : Nat} {z : Nat → Int} (h : CodeAt w ao len z) (hb : Below w.heap.size w w') : CodeAt w' ao len z :=
  ⟨h.ln, fun t ht => by obtain ⟨b, o, e, hc⟩ := h.cell t ht; exact ⟨b, o, e, by rw [(bcell hb).1 _ _ (lt_of_cell hc)]; exact hc⟩, h.rng⟩
end Go.Proofs.Ytpngikmcjkjdaab

namespace Go.Proofs.Ytpngikmcjkjdaab
set_option linter.unusedVariables false
inductive Pat where
  | none : Pat
  | one (S : Nat → Bool) : Pat
  | chain (a b : Pat) : Pat
  | alt (a b : Pat) : Pat
  | rep (a : Pat) (least copies : Nat) (endless : Bool) : Pat
inductive Star (l : List Nat → Prop) : List Nat → Prop where
  | nil : Star l []
  | cons {u v : List Nat} (hu : l u) (hv : Star l v) : Star l (u ++ v)
def Cat (l l' : List Nat → Prop) (x : List Nat) : Prop := ∃ u v, x = u ++ v ∧ l u ∧ l' v
def Copy (l : List Nat → Prop) (least i : Nat) (endless : Bool) (x : List Nat) : Prop :=
  if i < least then l x else if endless then Star l x else x = [] ∨ l x
def Copies (l : List Nat → Prop) (least : Nat) (endless : Bool) : Nat → List Nat → Prop
  | 0 => fun x => x = []
  | k + 1 => Cat (Copies l least endless k) (Copy l least k endless)
def Pat.lang : Pat → List Nat → Prop
  | .none => fun x => x = []
  | .one S => fun x => ∃ c, x = [c] ∧ S c = true
  | .chain a b => Cat a.lang b.lang
  | .alt a b => fun x => a.lang x ∨ b.lang x
  | .rep a least copies endless => Copies a.lang least endless copies
inductive Way (B rd : Nat → Nat → Prop) (L : Nat → Prop) : Nat → List Nat → Prop where
  | last {p c : Nat} (hr : rd p c) (hl : L p) : Way B rd L p [c]
  | step {p q c : Nat} {x : List Nat} (hr : rd p c) (hb : B p q) (hx : Way B rd L q x) : Way B rd L p (c :: x)
theorem Way.ne_nil {B rd : Nat → Nat → Prop} {L : Nat → Prop} {p : Nat} {x : List Nat} (h : Way B rd L p x) : x ≠ [] := by cases h <;> simp
theorem Way.mono {B B' rd : Nat → Nat → Prop} {L L' : Nat → Prop} (hB : ∀ p q, B p q → B' p q) (hL : ∀ p, L p → L' p) {p : Nat} {x : List Nat} (h : Way B rd L p x) : Way B' rd L' p x := by
  induction h with
  | last hr hl => exact .last hr (hL _ hl)
  | step hr hb _ ih => exact .step hr (hB _ _ hb) ih
structure Str (rd : Nat → Nat → Prop) where
  lo : Nat
  hi : Nat
  e : Prop
  F : Nat → Prop
  L : Nat → Prop
  B : Nat → Nat → Prop
structure Str.In {rd : Nat → Nat → Prop} (s : Str rd) : Prop where
  le : s.lo ≤ s.hi
  fi : ∀ p, s.F p → s.lo ≤ p ∧ p < s.hi
  la : ∀ p, s.L p → s.lo ≤ p ∧ p < s.hi
  be : ∀ p q, s.B p q → (s.lo ≤ p ∧ p < s.hi) ∧ (s.lo ≤ q ∧ q < s.hi)
def Str.acc {rd : Nat → Nat → Prop} (s : Str rd) (x : List Nat) : Prop := (x = [] ∧ s.e) ∨ ∃ p, s.F p ∧ Way s.B rd s.L p x
def Str.chain {rd : Nat → Nat → Prop} (s t : Str rd) : Str rd where
  lo := s.lo
  hi := t.hi
  e := s.e ∧ t.e
  F p := s.F p ∨ (s.e ∧ t.F p)
  L p := t.L p ∨ (t.e ∧ s.L p)
  B p q := s.B p q ∨ t.B p q ∨ (s.L p ∧ t.F q)
def Str.alt {rd : Nat → Nat → Prop} (s t : Str rd) : Str rd where
  lo := s.lo
  hi := t.hi
  e := s.e ∨ t.e
  F p := s.F p ∨ t.F p
  L p := s.L p ∨ t.L p
  B p q := s.B p q ∨ t.B p q
def Str.free {rd : Nat → Nat → Prop} (s : Str rd) (endless : Prop) : Str rd where
  lo := s.lo
  hi := s.hi
  e := True
  F := s.F
  L := s.L
  B p q := s.B p q ∨ (endless ∧ s.L p ∧ s.F q)
section
variable {rd : Nat → Nat → Prop} {s t : Str rd}
theorem Str.In.chain (hs : s.In) (ht : t.In) (h : s.hi = t.lo) : (s.chain t).In := by
  have h1 := hs.le
  have h2 := ht.le
  refine ⟨by show s.lo ≤ t.hi; omega, ?_, ?_, ?_⟩
  · rintro p (hp | ⟨_, hp⟩)
    · have := hs.fi p hp; exact ⟨this.1, by show p < t.hi; omega⟩
    · have := ht.fi p hp; exact ⟨by show s.lo ≤ p; omega, this.2⟩
  · rintro p (hp | ⟨_, hp⟩)
    · have := ht.la p hp; exact ⟨by show s.lo ≤ p; omega, this.2⟩
    · have := hs.la p hp; exact ⟨this.1, by show p < t.hi; omega⟩
  · rintro p q (hp | hp | ⟨hp, hq⟩)
    · have := hs.be p q hp; exact ⟨⟨this.1.1, by show p < t.hi; omega⟩, this.2.1, by show q < t.hi; omega⟩
    · have := ht.be p q hp; exact ⟨⟨by show s.lo ≤ p; omega, this.1.2⟩, by show s.lo ≤ q; omega, this.2.2⟩
    · have h3 := hs.la p hp; have h4 := ht.fi q hq
      exact ⟨⟨h3.1, by show p < t.hi; omega⟩, by show s.lo ≤ q; omega, h4.2⟩
theorem Str.In.alt (hs : s.In) (ht : t.In) (h : s.hi = t.lo) : (s.alt t).In := by
  have h1 := hs.le
  have h2 := ht.le
  refine ⟨by show s.lo ≤ t.hi; omega, ?_, ?_, ?_⟩
  · rintro p (hp | hp)
    · have := hs.fi p hp; exact ⟨this.1, by show p < t.hi; omega⟩
    · have := ht.fi p hp; exact ⟨by show s.lo ≤ p; omega, this.2⟩
  · rintro p (hp | hp)
    · have := hs.la p hp; exact ⟨this.1, by show p < t.hi; omega⟩
    · have := ht.la p hp; exact ⟨by show s.lo ≤ p; omega, this.2⟩
  · rintro p q (hp | hp)
    · have := hs.be p q hp; exact ⟨⟨this.1.1, by show p < t.hi; omega⟩, this.2.1, by show q < t.hi; omega⟩
    · have := ht.be p q hp; exact ⟨⟨by show s.lo ≤ p; omega, this.1.2⟩, by show s.lo ≤ q; omega, this.2.2⟩
theorem Str.In.free (hs : s.In) (en : Prop) : (s.free en).In :=
  ⟨hs.le, hs.fi, hs.la, fun p q h => by
    rcases h with h | ⟨_, h1, h2⟩
    · exact hs.be p q h
    · exact ⟨hs.la p h1, hs.fi q h2⟩⟩
theorem chain_right (hs : s.In) (ht : t.In) (h : s.hi = t.lo) {p : Nat} {x : List Nat} (hp : t.lo ≤ p) : Way (s.chain t).B rd (s.chain t).L p x ↔ Way t.B rd t.L p x := by
  constructor
  · intro hw
    induction hw with
    | last hr hl =>
      rcases hl with hl | ⟨_, hl⟩
      · exact .last hr hl
      · have := hs.la _ hl; omega
    | step hr hb _ ih =>
      rcases hb with hb | hb | ⟨hb, _⟩
      · have := (hs.be _ _ hb).1; omega
      · exact .step hr hb (ih (ht.be _ _ hb).2.1)
      · have := hs.la _ hb; omega
  · exact Way.mono (fun p q h => .inr (.inl h)) (fun p h => .inl h)
theorem chain_left (hs : s.In) (ht : t.In) (h : s.hi = t.lo) {p : Nat} {x : List Nat} (hp : p < s.hi) (hw : Way (s.chain t).B rd (s.chain t).L p x) : ∃ u v, x = u ++ v ∧ Way s.B rd s.L p u ∧ t.acc v := by
  induction hw with
  | last hr hl =>
    rcases hl with hl | ⟨he, hl⟩
    · have := ht.la _ hl; omega
    · exact ⟨_, [], by simp, .last hr hl, .inl ⟨rfl, he⟩⟩
  | step hr hb hx ih =>
    rcases hb with hb | hb | ⟨hb, hq⟩
    · obtain ⟨u, v, rfl, h1, h2⟩ := ih (hs.be _ _ hb).2.2
      exact ⟨_ :: u, v, rfl, .step hr hb h1, h2⟩
    · have := (ht.be _ _ hb).1; omega
    · exact ⟨[_], _, rfl, .last hr hb, .inr ⟨_, hq, (chain_right hs ht h (ht.fi _ hq).1).1 hx⟩⟩
theorem chain_join (hs : s.In) (ht : t.In) (h : s.hi = t.lo) {p : Nat} {u v : List Nat} (hu : Way s.B rd s.L p u) (hv : t.acc v) : Way (s.chain t).B rd (s.chain t).L p (u ++ v) := by
  rcases hv with ⟨rfl, he⟩ | ⟨q, hq, hv⟩
  · rw [List.append_nil]
    exact hu.mono (fun p q h => .inl h) (fun p hl => .inr ⟨he, hl⟩)
  · have hv' := (chain_right hs ht h (ht.fi _ hq).1).2 hv
    induction hu with
    | last hr hl => exact .step hr (.inr (.inr ⟨hl, hq⟩)) hv'
    | step hr hb _ ih => exact .step hr (.inl hb) ih
theorem chain_acc (hs : s.In) (ht : t.In) (h : s.hi = t.lo) (x : List Nat) : (s.chain t).acc x ↔ Cat s.acc t.acc x := by
  constructor
  · rintro (⟨rfl, h1, h2⟩ | ⟨p, hp | ⟨he, hp⟩, hw⟩)
    · exact ⟨[], [], rfl, .inl ⟨rfl, h1⟩, .inl ⟨rfl, h2⟩⟩
    · obtain ⟨u, v, rfl, h1, h2⟩ := chain_left hs ht h (hs.fi p hp).2 hw
      exact ⟨u, v, rfl, .inr ⟨p, hp, h1⟩, h2⟩
    · exact ⟨[], x, rfl, .inl ⟨rfl, he⟩, .inr ⟨p, hp, (chain_right hs ht h (ht.fi p hp).1).1 hw⟩⟩
  · rintro ⟨u, v, rfl, ⟨rfl, he⟩ | ⟨p, hp, hu⟩, hv⟩
    · rcases hv with ⟨rfl, he'⟩ | ⟨q, hq, hv⟩
      · exact .inl ⟨rfl, he, he'⟩
      · exact .inr ⟨q, .inr ⟨he, hq⟩, by simpa using (chain_right hs ht h (ht.fi q hq).1).2 hv⟩
    · exact .inr ⟨p, .inl hp, chain_join hs ht h hu hv⟩
theorem alt_acc (hs : s.In) (ht : t.In) (h : s.hi = t.lo) (x : List Nat) : (s.alt t).acc x ↔ s.acc x ∨ t.acc x := by
  have left : ∀ p x, p < s.hi → Way (s.alt t).B rd (s.alt t).L p x → Way s.B rd s.L p x := by
    intro p x hp hw
    induction hw with
    | last hr hl =>
      rcases hl with hl | hl
      · exact .last hr hl
      · have := ht.la _ hl; omega
    | step hr hb _ ih =>
      rcases hb with hb | hb
      · exact .step hr hb (ih (hs.be _ _ hb).2.2)
      · have := (ht.be _ _ hb).1; omega
  have right : ∀ p x, t.lo ≤ p → Way (s.alt t).B rd (s.alt t).L p x → Way t.B rd t.L p x := by
    intro p x hp hw
    induction hw with
    | last hr hl =>
      rcases hl with hl | hl
      · have := hs.la _ hl; omega
      · exact .last hr hl
    | step hr hb _ ih =>
      rcases hb with hb | hb
      · have := (hs.be _ _ hb).1; omega
      · exact .step hr hb (ih (ht.be _ _ hb).2.1)
  constructor
  · rintro (⟨rfl, h1 | h1⟩ | ⟨p, hp | hp, hw⟩)
    · exact .inl (.inl ⟨rfl, h1⟩)
    · exact .inr (.inl ⟨rfl, h1⟩)
    · exact .inl (.inr ⟨p, hp, left p x (hs.fi p hp).2 hw⟩)
    · exact .inr (.inr ⟨p, hp, right p x (ht.fi p hp).1 hw⟩)
  · rintro ((⟨rfl, h1⟩ | ⟨p, hp, hw⟩) | (⟨rfl, h1⟩ | ⟨p, hp, hw⟩))
    · exact .inl ⟨rfl, .inl h1⟩
    · exact .inr ⟨p, .inl hp, hw.mono (fun _ _ h => .inl h) (fun _ h => .inl h)⟩
    · exact .inl ⟨rfl, .inr h1⟩
    · exact .inr ⟨p, .inr hp, hw.mono (fun _ _ h => .inr h) (fun _ h => .inr h)⟩
theorem free_split {en : Prop} {p : Nat} {x : List Nat} (hw : Way (s.free en).B rd (s.free en).L p x) : ∃ u v, x = u ++ v ∧ Way s.B rd s.L p u ∧ (v = [] ∨ (en ∧ ∃ q, s.F q ∧ Way (s.free en).B rd (s.free en).L q v)) := by
  induction hw with
  | last hr hl => exact ⟨_, [], by simp, .last hr hl, .inl rfl⟩
  | step hr hb hx ih =>
    rcases hb with hb | ⟨he, hl, hq⟩
    · obtain ⟨u, v, rfl, h1, h2⟩ := ih
      exact ⟨_ :: u, v, rfl, .step hr hb h1, h2⟩
    · exact ⟨[_], _, rfl, .last hr hl, .inr ⟨he, _, hq, hx⟩⟩
theorem free_join {en : Prop} (he : en) {p q : Nat} {u v : List Nat} (hu : Way s.B rd s.L p u) (hq : s.F q) (hv : Way (s.free en).B rd (s.free en).L q v) : Way (s.free en).B rd (s.free en).L p (u ++ v) := by
  induction hu with
  | last hr hl => exact .step hr (.inr ⟨he, hl, hq⟩) hv
  | step hr hb _ ih => exact .step hr (.inl hb) ih
theorem opt_acc (x : List Nat) : (s.free False).acc x ↔ x = [] ∨ s.acc x := by
  constructor
  · rintro (⟨rfl, _⟩ | ⟨p, hp, hw⟩)
    · exact .inl rfl
    · obtain ⟨u, v, rfl, h1, rfl | ⟨h2, _⟩⟩ := free_split hw
      · rw [List.append_nil]; exact .inr (.inr ⟨p, hp, h1⟩)
      · exact h2.elim
  · rintro (rfl | ⟨rfl, _⟩ | ⟨p, hp, hw⟩)
    · exact .inl ⟨rfl, trivial⟩
    · exact .inl ⟨rfl, trivial⟩
    · exact .inr ⟨p, hp, hw.mono (fun _ _ h => .inl h) (fun _ h => h)⟩
theorem star_acc (x : List Nat) : (s.free True).acc x ↔ Star s.acc x := by
  constructor
  · rintro (⟨rfl, _⟩ | ⟨p, hp, hw⟩)
    · exact .nil
    · have key : ∀ n x p, x.length ≤ n → s.F p → Way (s.free True).B rd (s.free True).L p x → Star s.acc x := by
        intro n
        induction n with
        | zero =>
          intro x p hx _ hw
          exact absurd (List.length_eq_zero_iff.1 (by omega)) hw.ne_nil
        | succ n ih =>
          intro x p hx hp hw
          obtain ⟨u, v, rfl, h1, rfl | ⟨_, q, hq, h2⟩⟩ := free_split hw
          · exact .cons (.inr ⟨p, hp, h1⟩) .nil
          · have hl : 1 ≤ u.length := by cases u with
              | nil => exact absurd rfl h1.ne_nil
              | cons _ _ => simp
            exact .cons (.inr ⟨p, hp, h1⟩) (ih v q (by rw [List.length_append] at hx; omega) hq h2)
      exact key _ x p (Nat.le_refl _) hp hw
  · intro h
    induction h with
    | nil => exact .inl ⟨rfl, trivial⟩
    | cons hu _ ih =>
      rcases hu with ⟨rfl, _⟩ | ⟨p, hp, hu⟩
      · simpa using ih
      · rcases ih with ⟨rfl, _⟩ | ⟨q, hq, hv⟩
        · rw [List.append_nil]; exact .inr ⟨p, hp, hu.mono (fun _ _ h => .inl h) (fun _ h => h)⟩
        · exact .inr ⟨p, hp, free_join trivial hu hq hv⟩
end
def Str.nothing (rd : Nat → Nat → Prop) (lo : Nat) : Str rd := ⟨lo, lo, True, fun _ => False, fun _ => False, fun _ _ => False⟩
theorem nothing_acc (rd : Nat → Nat → Prop) (lo : Nat) (x : List Nat) : (Str.nothing rd lo).acc x ↔ x = [] := by
  constructor
  · rintro (⟨rfl, _⟩ | ⟨_, h, _⟩)
    · rfl
    · exact h.elim
  · rintro rfl; exact .inl ⟨rfl, trivial⟩
def Str.spot (rd : Nat → Nat → Prop) (lo : Nat) : Str rd := ⟨lo, lo + 1, False, fun p => p = lo, fun p => p = lo, fun _ _ => False⟩
theorem spot_acc {rd : Nat → Nat → Prop} {lo : Nat} {S : Nat → Bool} (h : ∀ c, rd lo c ↔ S c = true) (x : List Nat) : (Str.spot rd lo).acc x ↔ (Pat.one S).lang x := by
  constructor
  · rintro (⟨_, h'⟩ | ⟨p, hp, hw⟩)
    · exact h'.elim
    · have hp' : p = lo := hp
      subst hp'
      cases hw with
      | last hr _ => exact ⟨_, rfl, (h _).1 hr⟩
      | step _ hb _ => exact hb.elim
  · rintro ⟨c, rfl, hc⟩
    exact .inr ⟨lo, rfl, .last ((h c).2 hc) rfl⟩
theorem Cat.congr {l l' m m' : List Nat → Prop} (h : ∀ x, l x ↔ l' x) (h' : ∀ x, m x ↔ m' x) (x : List Nat) : Cat l m x ↔ Cat l' m' x :=
  ⟨fun ⟨u, v, e, a, b⟩ => ⟨u, v, e, (h u).1 a, (h' v).1 b⟩, fun ⟨u, v, e, a, b⟩ => ⟨u, v, e, (h u).2 a, (h' v).2 b⟩⟩
theorem Star.congr {l l' : List Nat → Prop} (h : ∀ x, l x ↔ l' x) (x : List Nat) : Star l x ↔ Star l' x :=
  ⟨fun hs => by induction hs with
    | nil => exact .nil
    | cons hu _ ih => exact .cons ((h _).1 hu) ih, fun hs => by induction hs with
    | nil => exact .nil
    | cons hu _ ih => exact .cons ((h _).2 hu) ih⟩
def Pat.size : Pat → Nat
  | .none => 0
  | .one _ => 1
  | .chain a b => a.size + b.size
  | .alt a b => a.size + b.size
  | .rep a _ copies _ => a.size * copies
theorem star_nil {l : List Nat → Prop} (h : ∀ x, l x ↔ x = []) (x : List Nat) : Star l x ↔ x = [] := by
  constructor
  · intro hs
    induction hs with
    | nil => rfl
    | cons hu _ ih => rw [(h _).1 hu, ih]; rfl
  · rintro rfl; exact .nil
theorem copies_nil {l : List Nat → Prop} (h : ∀ x, l x ↔ x = []) (least : Nat) (endless : Bool) (k : Nat) (x : List Nat) : Copies l least endless k x ↔ x = [] := by
  induction k generalizing x with
  | zero => exact Iff.rfl
  | succ k ih =>
    have hc : ∀ x, Copy l least k endless x ↔ x = [] := by
      intro x
      unfold Copy
      by_cases h1 : k < least
      · rw [if_pos h1]; exact h x
      · rw [if_neg h1]
        cases endless
        · rw [if_neg (by simp), h x]; simp
        · rw [if_pos rfl]; exact star_nil h x
    constructor
    · rintro ⟨u, v, rfl, hu, hv⟩
      rw [(ih u).1 hu, (hc v).1 hv]; rfl
    · rintro rfl
      exact ⟨[], [], rfl, (ih []).2 rfl, (hc []).2 rfl⟩
theorem size_zero (a : Pat) (h : a.size = 0) (x : List Nat) : a.lang x ↔ x = [] := by
  induction a generalizing x with
  | none => exact Iff.rfl
  | one S => simp [Pat.size] at h
  | chain a b iha ihb =>
    have h' : a.size + b.size = 0 := h
    constructor
    · rintro ⟨u, v, rfl, hu, hv⟩
      rw [(iha (by omega) u).1 hu, (ihb (by omega) v).1 hv]; rfl
    · rintro rfl
      exact ⟨[], [], rfl, (iha (by omega) []).2 rfl, (ihb (by omega) []).2 rfl⟩
  | alt a b iha ihb =>
    have h' : a.size + b.size = 0 := h
    show a.lang x ∨ b.lang x ↔ _
    rw [iha (by omega) x, ihb (by omega) x]; simp
  | rep a least copies endless iha =>
    have h' : a.size * copies = 0 := h
    rcases Nat.mul_eq_zero.1 h' with h0 | h0
    · exact copies_nil (iha h0) least endless copies x
    · subst h0; exact Iff.rfl
def stepS (B rd : Nat → Nat → Prop) (S : Nat → Prop) (c : Nat) : Nat → Prop := fun q => rd q c ∧ ∃ p, S p ∧ B p q
theorem steps_way {B rd : Nat → Nat → Prop} {L : Nat → Prop} (x : List Nat) (c : Nat) (S : Nat → Prop) : (∃ p, ((c :: x).foldl (stepS B rd) S) p ∧ L p) ↔ ∃ p q, S p ∧ B p q ∧ Way B rd L q (c :: x) := by
  induction x generalizing c S with
  | nil =>
    constructor
    · rintro ⟨q, ⟨hr, p, hp, hb⟩, hl⟩
      exact ⟨p, q, hp, hb, .last hr hl⟩
    · rintro ⟨p, q, hp, hb, hw⟩
      cases hw with
      | last hr hl => exact ⟨q, ⟨hr, p, hp, hb⟩, hl⟩
      | step _ _ hx => exact absurd rfl hx.ne_nil
  | cons d y ih =>
    rw [List.foldl_cons, ih d (stepS B rd S c)]
    constructor
    · rintro ⟨p, q, ⟨hr, p0, hp0, hb0⟩, hb, hw⟩
      exact ⟨p0, p, hp0, hb0, .step hr hb hw⟩
    · rintro ⟨p0, p, hp0, hb0, hw⟩
      cases hw with
      | step hr hb hx => exact ⟨p, _, ⟨hr, p0, hp0, hb0⟩, hb, hx⟩
theorem ahead_acc {rd : Nat → Nat → Prop} {s : Str rd} {B : Nat → Nat → Prop} {L : Nat → Prop} {a : Nat} (hs : s.In) (ha : a < s.lo) (hB : ∀ p q, B p q ↔ (p = a ∧ s.F q) ∨ s.B p q) (hL : ∀ p, L p ↔ (p = a ∧ s.e) ∨ s.L p) (x : List Nat) :
    (∃ p, (x.foldl (stepS B rd) (fun p => p = a)) p ∧ L p) ↔ s.acc x := by
  have hw : ∀ q y, s.lo ≤ q → (Way B rd L q y ↔ Way s.B rd s.L q y) := by
    intro q y hq
    constructor
    · intro h
      induction h with
      | last hr hl =>
        rcases (hL _).1 hl with ⟨h, _⟩ | h
        · omega
        · exact .last hr h
      | step hr hb _ ih =>
        rcases (hB _ _).1 hb with ⟨h, _⟩ | h
        · omega
        · exact .step hr h (ih (hs.be _ _ h).2.1)
    · exact Way.mono (fun p q h => (hB p q).2 (.inr h)) (fun p h => (hL p).2 (.inr h))
  cases x with
  | nil =>
    constructor
    · rintro ⟨p, hp, hl⟩
      have hp' : p = a := hp
      subst hp'
      rcases (hL p).1 hl with ⟨_, he⟩ | h
      · exact .inl ⟨rfl, he⟩
      · have := hs.la _ h; omega
    · rintro (⟨_, he⟩ | ⟨p, _, hw'⟩)
      · exact ⟨a, rfl, (hL a).2 (.inl ⟨rfl, he⟩)⟩
      · exact absurd rfl hw'.ne_nil
  | cons c x =>
    rw [steps_way]
    constructor
    · rintro ⟨p, q, rfl, hb, hw'⟩
      rcases (hB p q).1 hb with ⟨_, hq⟩ | h
      · exact .inr ⟨q, hq, (hw q _ (hs.fi q hq).1).1 hw'⟩
      · have := (hs.be _ _ h).1; omega
    · rintro (⟨h, _⟩ | ⟨q, hq, hw'⟩)
      · simp at h
      · exact ⟨a, q, rfl, (hB a q).2 (.inl ⟨rfl, hq⟩), (hw q _ (hs.fi q hq).1).2 hw'⟩
end Go.Proofs.Ytpngikmcjkjdaab

namespace Go.Proofs.Ytpngikmcjkjdaab
set_option linter.unusedVariables false
structure Nd where
  kind : Nat
  size : Nat
  S : Nat → Bool
  least : Nat
  copies : Nat
  en : Bool
  one : Nat
  two : Nat
inductive NodeIs (L : List Nd) : Nat → Pat → Prop where
  | none {i : Nat} {d : Nd} (h : L[i]? = some d) (hk : d.kind = 0) (hs : d.size = 0) : NodeIs L i .none
  | one {i : Nat} {d : Nd} {S : Nat → Bool} (h : L[i]? = some d) (hk : d.kind = 1) (hs : d.size = 1) (hS : d.S = S) : NodeIs L i (.one S)
  | chain {i o t : Nat} {d : Nd} {a b : Pat} (h : L[i]? = some d) (hk : d.kind = 2) (hs : d.size = a.size + b.size) (ho : d.one = o) (ht : d.two = t) (h1 : NodeIs L o a) (h2 : NodeIs L t b) : NodeIs L i (.chain a b)
  | alt {i o t : Nat} {d : Nd} {a b : Pat} (h : L[i]? = some d) (hk : d.kind = 3) (hs : d.size = a.size + b.size) (ho : d.one = o) (ht : d.two = t) (h1 : NodeIs L o a) (h2 : NodeIs L t b) : NodeIs L i (.alt a b)
  | rep {i o lo co : Nat} {en : Bool} {d : Nd} {a : Pat} (h : L[i]? = some d) (hk : d.kind = 4) (hs : d.size = a.size * co) (ho : d.one = o) (hl : d.least = lo) (hc : d.copies = co) (he : d.en = en) (h1 : NodeIs L o a) : NodeIs L i (.rep a lo co en)
theorem nd_app {L M : List Nd} {i : Nat} {d : Nd} (h : L[i]? = some d) : (L ++ M)[i]? = some d := by
  rw [List.getElem?_append_left (List.getElem?_eq_some_iff.1 h).1]; exact h
theorem NodeIs.app {L : List Nd} {i : Nat} {p : Pat} (h : NodeIs L i p) (M : List Nd) : NodeIs (L ++ M) i p := by
  induction h with
  | none h hk hs => exact .none (nd_app h) hk hs
  | one h hk hs hS => exact .one (nd_app h) hk hs hS
  | chain h hk hs ho ht _ _ h1 h2 => exact .chain (nd_app h) hk hs ho ht h1 h2
  | alt h hk hs ho ht _ _ h1 h2 => exact .alt (nd_app h) hk hs ho ht h1 h2
  | rep h hk hs ho hl hc he _ h1 => exact .rep (nd_app h) hk hs ho hl hc he h1
theorem NodeIs.node {L : List Nd} {i : Nat} {p : Pat} (h : NodeIs L i p) : ∃ d, L[i]? = some d ∧ d.size = p.size := by
  cases h with
  | none h hk hs => exact ⟨_, h, hs⟩
  | one h hk hs hS => exact ⟨_, h, hs⟩
  | chain h hk hs => exact ⟨_, h, hs⟩
  | alt h hk hs => exact ⟨_, h, hs⟩
  | rep h hk hs => exact ⟨_, h, hs⟩
theorem NodeIs.lt {L : List Nd} {i : Nat} {p : Pat} (h : NodeIs L i p) : i < L.length := by
  obtain ⟨d, h, _⟩ := h.node
  exact (List.getElem?_eq_some_iff.1 h).1
end Go.Proofs.Ytpngikmcjkjdaab

namespace Go.Proofs.Ytpngikmcjkjdaab
open Go.RowKit
set_option linter.unusedVariables false
def ParAt (w : World) (bp : Nat) (s : ByteArray) (a : Nat) (vn : Value) (bk : Bool) (sp : Int) : Prop := w.heap[bp]? = some (.cells #[.string s, .int .i64 (a : Int), vn, .bool bk, .int .i64 sp] 85 (0, 0))
theorem ParAt.cells {w : World} {bp : Nat} {s : ByteArray} {a : Nat} {vn : Value} {bk : Bool} {sp : Int} (h : ParAt w bp s a vn bk sp) : w.cell? ⟨bp, 0, none⟩ = some (.string s) ∧ w.cell? ⟨bp, 1, none⟩ = some (.int .i64 (a : Int)) ∧ w.cell? ⟨bp, 2, none⟩ = some vn ∧ w.cell? ⟨bp, 3, none⟩ = some (.bool bk) ∧ w.cell? ⟨bp, 4, none⟩ = some (.int .i64 sp) ∧ w.frozen? ⟨bp, 1, none⟩ = false ∧ w.frozen? ⟨bp, 3, none⟩ = false ∧ w.frozen? ⟨bp, 4, none⟩ = false := by
  unfold ParAt at h
  simp [World.cell?, World.frozen?, h]
theorem ParAt.go {w : World} {bp : Nat} {s : ByteArray} {a : Nat} {vn : Value} {bk : Bool} {sp : Int} (h : ParAt w bp s a vn bk sp) (b : Nat) : ParAt (w.setCell ⟨bp, 1, none⟩ (.int .i64 (b : Int))) bp s b vn bk sp := by
  unfold ParAt at h ⊢
  simp [World.setCell, Array.getElem?_modify, h]
def hit (s : ByteArray) (a b : Nat) : Bool := decide (a < s.size) && ((s.data.toList.getD a 0).toNat == b)
theorem hit_at {s : ByteArray} {a b : Nat} (h : a < s.size) : hit s a b = (s[a].toNat == b) := by
  unfold hit
  have h' : a < s.data.toList.length := by rw [Array.length_toList]; exact h
  rw [List.getD_eq_getElem?_getD, List.getElem?_eq_getElem h']
  simp [h]
  rfl
set_option maxRecDepth 20000 in
set_option maxHeartbeats 1000000 in
theorem take_ok (bp : Nat) (s : ByteArray) (a b : Nat) (vn : Value) (bk : Bool) (sp : Int) (w : World) (hs : s.size ≤ 40) (h : ParAt w bp s a vn bk sp) :
    Calls Try.prog 86 #[.pointer (some ⟨bp, 0, none⟩), .int .u8 (b : Int)] w
      fun e w' => e = .returned (.bool (hit s a b)) ∧ ParAt w' bp s (if hit s a b then a + 1 else a) vn bk sp ∧ Touch (fun k => k = bp) w w' := by
  obtain ⟨c0, c1, c2, c3, c4, f1, f3, f4⟩ := h.cells
  have HP : Hid (ParAt w bp s a vn bk sp) := h
  have HD : ∀ q, Touch (fun k => k = bp) w (w.drewN q) := fun q => by
    have hb := below_drewN (Below.refl w.heap.size w) q
    exact ⟨hb.os, hb.tape, hb.output, hb.size, fun k hk _ => hb.block k hk⟩
  clear h
  by_cases hlt : a < s.size
  · have hh := hit_at (b := b) hlt
    have hnl : ¬ (s.size : Int) ≤ (a : Int) := by omega
    by_cases hb : s[a].toNat = b
    · have e1 : hit s a b = true := by rw [hh]; simp [hb]
      rw [e1]
      have hb1 : ((s[a].toNat : Int) != (b : Int)) = false := by simp [hb]
      clear hh e1
      go_enter Try.func86, Try.ntmps86
      go_wp2_with fail
      go_quiet (fail)
      go_wp2_with fail
      go_ret
      refine ⟨rfl, ?_, (HD nq).set ⟨bp, 1, none⟩ _ (.inl rfl)⟩
      have hg := ParAt.go (w := w.drewN nq) (b := a + 1) HP.out
      rw [show ((a + 1 : Nat) : Int) = (a : Int) + 1 by simp] at hg
      exact hg
    · have e1 : hit s a b = false := by rw [hh]; simp [hb]
      rw [e1]
      have hb1 : ((s[a].toNat : Int) != (b : Int)) = true := by simp; omega
      clear hh e1
      go_enter Try.func86, Try.ntmps86
      go_wp2_with fail
      go_quiet (fail)
      go_wp2_with fail
      go_ret
      exact ⟨rfl, HP.out, HD nq⟩
  · have e1 : hit s a b = false := by unfold hit; simp [hlt]
    rw [e1]
    have hnl : (s.size : Int) ≤ (a : Int) := by omega
    clear e1
    go_enter Try.func86, Try.ntmps86
    go_wp2_with fail
    go_quiet (fail)
    go_wp2_with fail
    go_ret
    exact ⟨rfl, HP.out, HD nq⟩
end Go.Proofs.Ytpngikmcjkjdaab

namespace Go.Proofs.Ytpngikmcjkjdaab
open Go.RowKit
set_option linter.unusedVariables false
def byteAt (s : ByteArray) (a : Nat) : Nat := (s.data.toList.getD a 0).toNat
theorem byteAt_eq {s : ByteArray} {a : Nat} (h : a < s.size) : byteAt s a = s[a].toNat := by
  unfold byteAt
  have h' : a < s.data.toList.length := by rw [Array.length_toList]; exact h
  rw [List.getD_eq_getElem?_getD, List.getElem?_eq_getElem h']
  rfl
theorem byteAt_end {s : ByteArray} {a : Nat} (h : ¬ a < s.size) : byteAt s a = 0 := by
  unfold byteAt
  rw [List.getD_eq_getElem?_getD, List.getElem?_eq_none (by rw [Array.length_toList]; exact Nat.le_of_not_lt h)]
  rfl
def noteHere (s : ByteArray) (a : Nat) : Bool := decide (97 ≤ byteAt s a) && decide (byteAt s a ≤ 104)
def digitHere (s : ByteArray) (a : Nat) : Bool := decide (48 ≤ byteAt s a) && decide (byteAt s a ≤ 57)
theorem touch_drew {bp : Nat} (w : World) (q : Nat) : Touch (fun k => k = bp) w (w.drewN q) := by
  have hb := below_drewN (Below.refl w.heap.size w) q
  exact ⟨hb.os, hb.tape, hb.output, hb.size, fun k hk _ => hb.block k hk⟩
theorem Touch.drewN {S : Nat → Prop} {w w2 : World} (h : Touch S w w2) (q : Nat) : Touch S w (w2.drewN q) := by
  have hb := below_drewN (Below.refl w2.heap.size w2) q
  exact ⟨hb.os.trans h.os, hb.tape.trans h.tape, hb.output.trans h.output, Nat.le_trans h.size hb.size, fun k hk hs => (hb.block k (Nat.lt_of_lt_of_le hk h.size)).trans (h.block k hk hs)⟩
set_option maxRecDepth 20000 in
set_option maxHeartbeats 1000000 in
theorem pnote_ok (bp : Nat) (s : ByteArray) (a : Nat) (vn : Value) (bk : Bool) (sp : Int) (w : World) (hs : s.size ≤ 40) (h : ParAt w bp s a vn bk sp) :
    Calls Try.prog 105 #[.pointer (some ⟨bp, 0, none⟩)] w
      fun e w' => e = .returned (.tuple #[.int .i64 (if noteHere s a then (byteAt s a : Int) - 97 else 0), .bool (noteHere s a)]) ∧ ParAt w' bp s (if noteHere s a then a + 1 else a) vn bk sp ∧ Touch (fun k => k = bp) w w' := by
  obtain ⟨c0, c1, c2, c3, c4, f1, f3, f4⟩ := h.cells
  have HP : Hid (ParAt w bp s a vn bk sp) := h
  clear h
  by_cases hlt : a < s.size
  · have hh := byteAt_eq hlt
    have hnl : ¬ (s.size : Int) ≤ (a : Int) := by omega
    by_cases hb : 97 ≤ s[a].toNat ∧ s[a].toNat ≤ 104
    · have e1 : noteHere s a = true := by unfold noteHere; rw [hh]; simp [hb.1, hb.2]
      simp only [e1, if_true]
      rw [hh]
      have HC := fun w => number_yes (s[a].toNat : Int) w (by omega) (by omega)
      clear hh e1
      go_enter Try.func105, Try.ntmps105
      go_wp2_with fail
      go_quiet (fail)
      go_wp2_with fail
      have HQ : Hid (ParAt (w.drewN nq) bp s a vn bk sp) := HP.out
      have hT := touch_drew (bp := bp) w nq
      generalize w.drewN nq = w2 at *
      obtain ⟨c0, c1, c2, c3, c4, f1, f3, f4⟩ := HQ.out.cells
      go_quiet ((go_at_call 58; exact Calls.quiet_of_same (HC _)))
      go_wp2_with fail
      go_ret2
      refine ⟨rfl, ?_, (hT.drewN nq).set ⟨bp, 1, none⟩ _ (.inl rfl)⟩
      have hg := ParAt.go (w := w2.drewN nq) (b := a + 1) HQ.out
      rw [show ((a + 1 : Nat) : Int) = (a : Int) + 1 by simp] at hg
      exact hg
    · have e1 : noteHere s a = false := by unfold noteHere; rw [hh]; simp; omega
      simp only [e1, Bool.false_eq_true, if_false]
      have HC := fun w => number_no (s[a].toNat : Int) w (by omega)
      clear hh e1
      go_enter Try.func105, Try.ntmps105
      go_wp2_with fail
      go_quiet (fail)
      go_wp2_with fail
      have HQ : Hid (ParAt (w.drewN nq) bp s a vn bk sp) := HP.out
      have hT := touch_drew (bp := bp) w nq
      generalize w.drewN nq = w2 at *
      obtain ⟨c0, c1, c2, c3, c4, f1, f3, f4⟩ := HQ.out.cells
      go_quiet ((go_at_call 58; exact Calls.quiet_of_same (HC _)))
      go_wp2_with fail
      go_ret2
      exact ⟨rfl, HQ.out, hT.drewN nq⟩
  · have e1 : noteHere s a = false := by unfold noteHere; rw [byteAt_end hlt]; simp
    simp only [e1, Bool.false_eq_true, if_false]
    have hnl : (s.size : Int) ≤ (a : Int) := by omega
    clear e1
    go_enter Try.func105, Try.ntmps105
    go_wp2_with fail
    go_quiet (fail)
    go_wp2_with fail
    go_ret2
    exact ⟨rfl, HP.out, touch_drew w nq⟩
end Go.Proofs.Ytpngikmcjkjdaab

namespace Go.Proofs.Ytpngikmcjkjdaab
open Go.RowKit
set_option linter.unusedVariables false
set_option maxRecDepth 20000 in
set_option maxHeartbeats 1000000 in
theorem digit_ok (bp : Nat) (s : ByteArray) (a : Nat) (vn : Value) (bk : Bool) (sp : Int) (w : World) (hs : s.size ≤ 40) (h : ParAt w bp s a vn bk sp) :
    Calls Try.prog 106 #[.pointer (some ⟨bp, 0, none⟩)] w
      fun e w' => e = .returned (.tuple #[.int .i64 (if digitHere s a then (byteAt s a : Int) - 48 else 0), .bool (digitHere s a)]) ∧ ParAt w' bp s (if digitHere s a then a + 1 else a) vn bk sp ∧ Touch (fun k => k = bp) w w' := by
  obtain ⟨c0, c1, c2, c3, c4, f1, f3, f4⟩ := h.cells
  have HP : Hid (ParAt w bp s a vn bk sp) := h
  clear h
  by_cases hlt : a < s.size
  · have hh := byteAt_eq hlt
    have hnl : ¬ (s.size : Int) ≤ (a : Int) := by omega
    by_cases hb : 48 ≤ s[a].toNat ∧ s[a].toNat ≤ 57
    · have e1 : digitHere s a = true := by unfold digitHere; rw [hh]; simp [hb.1, hb.2]
      simp only [e1, if_true]
      rw [hh]
      have q1 : ¬ (s[a].toNat : Int) < 48 := by omega
      have q2 : ¬ (57 : Int) < (s[a].toNat : Int) := by omega
      have q3 : (s[a].toNat : Int) ≤ 57 := by omega
      have q4 : (48 : Int) ≤ (s[a].toNat : Int) := by omega
      clear hh e1
      go_enter Try.func106, Try.ntmps106
      go_wp2_with fail
      go_quiet (fail)
      go_wp2_with fail
      have HQ : Hid (ParAt (w.drewN nq) bp s a vn bk sp) := HP.out
      have hT := touch_drew (bp := bp) w nq
      generalize w.drewN nq = w2 at *
      obtain ⟨c0, c1, c2, c3, c4, f1, f3, f4⟩ := HQ.out.cells
      go_quiet (fail)
      go_wp2_with fail
      go_ret2
      refine ⟨rfl, ?_, (hT.drewN nq).set ⟨bp, 1, none⟩ _ (.inl rfl)⟩
      have hg := ParAt.go (w := w2.drewN nq) (b := a + 1) HQ.out
      rw [show ((a + 1 : Nat) : Int) = (a : Int) + 1 by simp] at hg
      exact hg
    · have e1 : digitHere s a = false := by unfold digitHere; rw [hh]; simp; omega
      simp only [e1, Bool.false_eq_true, if_false]
      clear hh e1
      have hcase : (s[a].toNat : Int) < 48 ∨ (¬ (s[a].toNat : Int) < 48 ∧ (57 : Int) < (s[a].toNat : Int)) := by omega
      rcases hcase with q1 | ⟨q1, q2⟩
      all_goals
        go_enter Try.func106, Try.ntmps106
        go_wp2_with fail
        go_quiet (fail)
        go_wp2_with fail
        have HQ : Hid (ParAt (w.drewN nq) bp s a vn bk sp) := HP.out
        have hT := touch_drew (bp := bp) w nq
        generalize w.drewN nq = w2 at *
        obtain ⟨c0, c1, c2, c3, c4, f1, f3, f4⟩ := HQ.out.cells
        go_quiet (fail)
        go_wp2_with fail
        go_ret2
        exact ⟨rfl, HQ.out, hT.drewN nq⟩
  · have e1 : digitHere s a = false := by unfold digitHere; rw [byteAt_end hlt]; simp
    simp only [e1, Bool.false_eq_true, if_false]
    have hnl : (s.size : Int) ≤ (a : Int) := by omega
    clear e1
    go_enter Try.func106, Try.ntmps106
    go_wp2_with fail
    go_quiet (fail)
    go_wp2_with fail
    go_ret2
    exact ⟨rfl, HP.out, touch_drew w nq⟩
end Go.Proofs.Ytpngikmcjkjdaab

namespace Go.Proofs.Ytpngikmcjkjdaab
open Go.RowKit
set_option linter.unusedVariables false
theorem ParAt.back {w : World} {bp : Nat} {s : ByteArray} {a : Nat} {vn : Value} {bk : Bool} {sp : Int} (h : ParAt w bp s a vn bk sp) (pl : Int) : ParAt ((w.setCell ⟨bp, 3, none⟩ (.bool true)).setCell ⟨bp, 4, none⟩ (.int .i64 pl)) bp s a vn true pl := by
  unfold ParAt at h ⊢
  simp [World.setCell, Array.getElem?_modify, h]
set_option maxRecDepth 20000 in
set_option maxHeartbeats 1000000 in
theorem tellBackward_ok (bp : Nat) (s : ByteArray) (a : Nat) (vn : Value) (bk : Bool) (sp pl : Int) (w : World) (h : ParAt w bp s a vn bk sp) :
    Calls Try.prog 107 #[.pointer (some ⟨bp, 0, none⟩), .int .i64 pl] w
      fun e w' => e = .returned (.tuple #[]) ∧ ParAt w' bp s a vn true (if bk then sp else pl) ∧ Touch (fun k => k = bp) w w' := by
  obtain ⟨c0, c1, c2, c3, c4, f1, f3, f4⟩ := h.cells
  have HP : Hid (ParAt w bp s a vn bk sp) := h
  clear h
  cases bk
  · go_enter Try.func107, Try.ntmps107
    go_wp2_with fail
    go_end0
    exact ⟨rfl, HP.out.back pl, ((Touch.refl (fun k => k = bp) w).set ⟨bp, 3, none⟩ _ (.inl rfl)).set ⟨bp, 4, none⟩ _ (.inl rfl)⟩
  · go_enter Try.func107, Try.ntmps107
    go_wp2_with fail
    go_end0
    exact ⟨rfl, HP.out, Touch.refl _ w⟩
def endHere (s : ByteArray) (a : Nat) : Bool := decide (s.size ≤ a) || (byteAt s a == 124) || (byteAt s a == 41)
set_option maxRecDepth 20000 in
set_option maxHeartbeats 1000000 in
theorem atEnd_ok (bp : Nat) (s : ByteArray) (a : Nat) (vn : Value) (bk : Bool) (sp : Int) (w : World) (hs : s.size ≤ 40) (h : ParAt w bp s a vn bk sp) :
    Calls Try.prog 95 #[.pointer (some ⟨bp, 0, none⟩)] w
      fun e w' => e = .returned (.bool (endHere s a)) ∧ ParAt w' bp s a vn bk sp ∧ Touch (fun k => k = bp) w w' := by
  obtain ⟨c0, c1, c2, c3, c4, f1, f3, f4⟩ := h.cells
  have HP : Hid (ParAt w bp s a vn bk sp) := h
  clear h
  by_cases hlt : a < s.size
  · have hh := byteAt_eq hlt
    have hnl : ¬ (s.size : Int) ≤ (a : Int) := by omega
    have hcase : (s[a].toNat = 124) ∨ (s[a].toNat ≠ 124 ∧ s[a].toNat = 41) ∨ (s[a].toNat ≠ 124 ∧ s[a].toNat ≠ 41) := by omega
    have e1 : endHere s a = ((s[a].toNat == 124) || (s[a].toNat == 41)) := by unfold endHere; rw [hh, decide_eq_false (by omega), Bool.false_or]
    rw [e1]
    clear hh e1
    rcases hcase with q1 | ⟨q1, q2⟩ | ⟨q1, q2⟩
    · have b1 : ((s[a].toNat : Int) == 124) = true := by simp; omega
      have b3 : (s[a].toNat == 124) = true := by simp [q1]
      rw [b3, Bool.true_or]
      go_enter Try.func95, Try.ntmps95
      go_wp2_with fail
      go_quiet (fail)
      go_wp2_with fail
      have HQ : Hid (ParAt (w.drewN nq) bp s a vn bk sp) := HP.out
      have hT := touch_drew (bp := bp) w nq
      generalize w.drewN nq = w2 at *
      obtain ⟨c0, c1, c2, c3, c4, f1, f3, f4⟩ := HQ.out.cells
      go_quiet (fail)
      go_wp2_with fail
      go_ret
      exact ⟨ret_bool (by simp), HQ.out, hT.drewN nq⟩
    · have b1 : ((s[a].toNat : Int) == 124) = false := by simp; omega
      have b2 : ((s[a].toNat : Int) == 41) = true := by simp; omega
      have b4 : (s[a].toNat == 41) = true := by simp [q2]
      rw [b4, Bool.or_true]
      go_enter Try.func95, Try.ntmps95
      go_wp2_with fail
      go_quiet (fail)
      go_wp2_with fail
      have HQ : Hid (ParAt (w.drewN nq) bp s a vn bk sp) := HP.out
      have hT := touch_drew (bp := bp) w nq
      generalize w.drewN nq = w2 at *
      obtain ⟨c0, c1, c2, c3, c4, f1, f3, f4⟩ := HQ.out.cells
      go_quiet (fail)
      go_wp2_with fail
      go_ret
      exact ⟨ret_bool (by simp), HQ.out, hT.drewN nq⟩
    · have b1 : ((s[a].toNat : Int) == 124) = false := by simp; omega
      have b2 : ((s[a].toNat : Int) == 41) = false := by simp; omega
      have b3 : (s[a].toNat == 124) = false := by simp [q1]
      have b4 : (s[a].toNat == 41) = false := by simp [q2]
      rw [b3, b4, Bool.or_false]
      go_enter Try.func95, Try.ntmps95
      go_wp2_with fail
      go_quiet (fail)
      go_wp2_with fail
      have HQ : Hid (ParAt (w.drewN nq) bp s a vn bk sp) := HP.out
      have hT := touch_drew (bp := bp) w nq
      generalize w.drewN nq = w2 at *
      obtain ⟨c0, c1, c2, c3, c4, f1, f3, f4⟩ := HQ.out.cells
      go_quiet (fail)
      go_wp2_with fail
      go_ret
      exact ⟨ret_bool (by simp), HQ.out, hT.drewN nq⟩
  · have e1 : endHere s a = true := by unfold endHere; simp; left; left; omega
    rw [e1]
    have hnl : (s.size : Int) ≤ (a : Int) := by omega
    clear e1
    go_enter Try.func95, Try.ntmps95
    go_wp2_with fail
    go_quiet (fail)
    go_wp2_with fail
    go_ret
    exact ⟨rfl, HP.out, touch_drew w nq⟩
end Go.Proofs.Ytpngikmcjkjdaab
