import Derived.BigRegion
import Derived.ChangeAlike
import Derived.Deep.DeepCutAuto
import Derived.Deep.OwnRows
import Derived.RegionTactic
import Derived.Test.YtpngikmcjkjdaabG1
set_option linter.unusedVariables false
set_option linter.unusedSimpArgs false
namespace Go.Proofs.Ytpngikmcjkjdaab
set_option linter.unusedVariables false
theorem nodup_bound : ∀ (N : Nat) (l : List Nat), l.Nodup → (∀ x ∈ l, x < N) → l.length ≤ N := by
  intro N
  induction N with
  | zero =>
    intro l _ h
    cases l with
    | nil => simp
    | cons a s => exact absurd (h a (by simp)) (by omega)
  | succ N ih =>
    intro l hn h
    have h1 := ih (l.erase N) (hn.erase N) (fun x hx => by
      have := (hn.mem_erase_iff).1 hx
      have := h x this.2
      omega)
    have h2 : l.length ≤ (l.erase N).length + 1 := by rw [List.length_erase]; split <;> omega
    omega
def pn (S : Nat → Nat → Nat) (ps : List Nat) (k c : Nat) : Nat := ps.idxOf (S (ps.getD k 0) c)
structure PRel (good : Nat → Prop) (S : Nat → Nat → Nat) (ps : List Nat) (p : Nat) : Prop where
  len : 1 ≤ ps.length
  hd : ps.getD 0 0 = 0
  nd : ps.Nodup
  inr : ∀ q ∈ ps, good q
  clo : ∀ r, r < p → r / 8 < ps.length ∧ S (ps.getD (r / 8) 0) (r % 8) ∈ ps
  num : ∀ r, r < p → pn S ps (r / 8) (r % 8) ≤ come (pn S ps) r
  row : ∀ i, 8 * i < p → i < come (pn S ps) (8 * i)
  cm : come (pn S ps) p = ps.length
section
variable {good : Nat → Prop} {S : Nat → Nat → Nat} {ps : List Nat} {p : Nat}
theorem PRel.start (h : good 0) : PRel good S [0] 0 :=
  ⟨by simp, rfl, by simp, by intro q hq; simp at hq; subst hq; exact h, fun r hr => absurd hr (by omega), fun r hr => absurd hr (by omega), fun i hi => absurd hi (by omega), rfl⟩
theorem PRel.old (h : PRel good S ps p) (hk : p / 8 < ps.length) (hq : S (ps.getD (p / 8) 0) (p % 8) ∈ ps) : PRel good S ps (p + 1) where
  len := h.len
  hd := h.hd
  nd := h.nd
  inr := h.inr
  clo r hr := by
    by_cases e : r = p
    · subst e; exact ⟨hk, hq⟩
    · exact h.clo r (by omega)
  num r hr := by
    by_cases e : r = p
    · subst e; have := List.idxOf_lt_length_of_mem hq; rw [h.cm]; exact Nat.le_of_lt this
    · exact h.num r (by omega)
  row i hi := by
    by_cases e : 8 * i = p
    · rw [e, h.cm]; have : p / 8 = i := by omega
      omega
    · exact h.row i (by omega)
  cm := by
    have hl : pn S ps (p / 8) (p % 8) < ps.length := List.idxOf_lt_length_of_mem hq
    simp only [come, h.cm]
    exact Nat.max_eq_left hl
theorem getD_app (l : List Nat) (x i : Nat) (h : i < l.length) : (l ++ [x]).getD i 0 = l.getD i 0 := getD_snoc_lt l x i h
theorem PRel.new (h : PRel good S ps p) (hk : p / 8 < ps.length) (hq : S (ps.getD (p / 8) 0) (p % 8) ∉ ps) (hg : good (S (ps.getD (p / 8) 0) (p % 8))) :
    PRel good S (ps ++ [S (ps.getD (p / 8) 0) (p % 8)]) (p + 1) := by
  have hst : ∀ r, r < p → pn S (ps ++ [S (ps.getD (p / 8) 0) (p % 8)]) (r / 8) (r % 8) = pn S ps (r / 8) (r % 8) := by
    intro r hr
    have hc := h.clo r hr
    simp only [pn]
    rw [getD_app _ _ _ hc.1, List.idxOf_append, if_pos hc.2]
  have hnew : pn S (ps ++ [S (ps.getD (p / 8) 0) (p % 8)]) (p / 8) (p % 8) = ps.length := by
    simp only [pn]
    rw [getD_app _ _ _ hk, List.idxOf_append, if_neg hq]
    simp
  have hcm : ∀ r, r ≤ p → come (pn S (ps ++ [S (ps.getD (p / 8) 0) (p % 8)])) r = come (pn S ps) r := fun r hr => come_congr r (fun q hq' => hst q (by omega))
  refine ⟨by simp, ?_, ?_, ?_, ?_, ?_, ?_, ?_⟩
  · rw [getD_app _ _ _ h.len]; exact h.hd
  · rw [List.nodup_append]; refine ⟨h.nd, by simp, ?_⟩
    intro a ha b hb e
    simp at hb
    subst hb; subst e; exact hq ha
  · intro q hq'
    rcases List.mem_append.1 hq' with h' | h'
    · exact h.inr q h'
    · simp at h'; subst h'; exact hg
  · intro r hr
    by_cases e : r = p
    · subst e; rw [getD_app _ _ _ hk]; exact ⟨by simp; omega, by simp⟩
    · have hc := h.clo r (by omega)
      rw [getD_app _ _ _ hc.1]
      exact ⟨by simp; omega, List.mem_append_left _ hc.2⟩
  · intro r hr
    by_cases e : r = p
    · subst e; rw [hnew, hcm r (Nat.le_refl _), h.cm]; exact Nat.le_refl _
    · rw [hst r (by omega), hcm r (by omega)]; exact h.num r (by omega)
  · intro i hi
    by_cases e : 8 * i = p
    · rw [hcm _ (by omega), e, h.cm]; have : p / 8 = i := by omega
      omega
    · rw [hcm _ (by omega)]; exact h.row i (by omega)
  · simp only [come, hcm p (Nat.le_refl _), h.cm, hnew, List.length_append, List.length_singleton]
    exact Nat.max_eq_right (Nat.le_succ _)
end
def succQ (M N : Tab) (q c : Nat) : Nat := M.nxt (q / 40) c * 40 + N.nxt (q % 40) c
def goodQ (M N : Tab) (q : Nat) : Prop := q / 40 < M.n ∧ q % 40 < N.n
theorem PRel.bound {M N : Tab} {ps : List Nat} {p : Nat} (hN : N.Ok) (h : PRel (goodQ M N) (succQ M N) ps p) : ps.length ≤ M.n * N.n := by
  have h1 := nodup_bound (M.n * N.n) (ps.map fun q => q / 40 * N.n + q % 40) ?_ ?_
  · simpa using h1
  · rw [List.Nodup, List.pairwise_map]
    refine List.Pairwise.imp_of_mem ?_ h.nd
    · intro a b ha hb hne e
      have h1 := h.inr a ha
      have h2 := h.inr b hb
      apply hne
      have g1 := h1.2
      have g2 := h2.2
      have e1 : (a / 40 * N.n + a % 40) / N.n = a / 40 := by
        rw [Nat.mul_comm, Nat.mul_add_div (by omega), Nat.div_eq_of_lt g1]; omega
      have e2 : (b / 40 * N.n + b % 40) / N.n = b / 40 := by
        rw [Nat.mul_comm, Nat.mul_add_div (by omega), Nat.div_eq_of_lt g2]; omega
      have ed : a / 40 = b / 40 := by rw [← e1, ← e2, e]
      rw [ed] at e
      omega
  · intro x hx
    simp only [List.mem_map] at hx
    obtain ⟨q, hq, rfl⟩ := hx
    have h1 := h.inr q hq
    have : (q / 40 + 1) * N.n ≤ M.n * N.n := Nat.mul_le_mul_right _ h1.1
    have h2 := h1.2
    rw [Nat.add_mul] at this
    omega
theorem getD_idxOf (ps : List Nat) (q : Nat) (h : q ∈ ps) : ps.getD (ps.idxOf q) 0 = q := by
  have hl := List.idxOf_lt_length_of_mem h
  rw [List.getD_eq_getElem?_getD, List.getElem?_eq_getElem hl]
  simp [List.getElem_idxOf]
theorem apart_le {M N : Tab} {L : List Nat → Bool} (hM : IsLeast M L) (hN : Numbered N) (hL : ∀ x, Notes x → N.accepts x = L x) (hs : List Nat) (hlt : ∀ c, c < hs.length → hs.getD c 0 < N.n)
    (hap : ∀ c d, c < d → d < hs.length → Apart N (hs.getD c 0) (hs.getD d 0)) : hs.length ≤ M.n := by
  have hex : ∀ s, ∃ x, s < N.n → Notes x ∧ N.read 0 x = s := fun s => by
    by_cases hs : s < N.n
    · obtain ⟨x, h⟩ := hN.reach s hs; exact ⟨x, fun _ => h⟩
    · exact ⟨[], fun h => absurd h hs⟩
  let g := fun s => Classical.choose (hex s)
  have hg : ∀ s, s < N.n → Notes (g s) ∧ N.read 0 (g s) = s := fun s => Classical.choose_spec (hex s)
  have key : ∀ c d, c < d → d < hs.length → M.read 0 (g (hs.getD c 0)) ≠ M.read 0 (g (hs.getD d 0)) := by
    intro c d hcd hd e
    obtain ⟨z, hz, hdf⟩ := hap c d hcd hd
    apply hdf
    have ha' := hg _ (hlt c (by omega))
    have hb' := hg _ (hlt d hd)
    have nt : ∀ x, Notes x → Notes (x ++ z) := fun x hx c hc => by
      rcases List.mem_append.1 hc with h | h
      · exact hx c h
      · exact hz c h
    have ea := hM.lang _ (nt _ ha'.1)
    have eb := hM.lang _ (nt _ hb'.1)
    rw [← hL _ (nt _ ha'.1)] at ea
    rw [← hL _ (nt _ hb'.1)] at eb
    simp only [Tab.accepts, Tab.read_append] at ea eb
    rw [ha'.2] at ea
    rw [hb'.2] at eb
    rw [← ea, ← eb, e]
  have h1 := nodup_bound M.n ((List.range hs.length).map fun c => M.read 0 (g (hs.getD c 0))) ?_ ?_
  · simpa using h1
  · refine List.Pairwise.map _ (fun a b h => h) ?_
    rw [List.pairwise_iff_getElem]
    intro i j hi hj hij
    simp only [List.getElem_range]
    exact key i j hij (by simpa using hj)
  · intro x hx
    simp only [List.mem_map, List.mem_range] at hx
    obtain ⟨c, hc, rfl⟩ := hx
    exact hM.num.read_lt 0 hM.num.pos _ (hg _ (hlt c hc)).1
end Go.Proofs.Ytpngikmcjkjdaab

namespace Go.Proofs.Ytpngikmcjkjdaab
open Go.RowKit
set_option linter.unusedVariables false
set_option linter.unusedSimpArgs false
set_option maxRecDepth 20000 in
set_option maxHeartbeats 800000 in
theorem isTune_ok (s : ByteArray) (w : World) (hs : s.size ≤ maxLen) :
    Calls Try.prog 59 #[.string s] w fun e w' => e = .returned (.bool (decide (s.size ≤ 12) && textTo s s.size)) ∧ w' = w := by
  unfold maxLen at hs
  by_cases hl : s.size ≤ 12
  · have e : (decide (s.size ≤ 12) && textTo s s.size) = textTo s s.size := by simp [hl]
    rw [e]
    clear e
    go_enter Try.func59, Try.ntmps59
    go_wp2_with fail
    go_loop [3] (fun i' => ∃ i : Nat, i ≤ s.size ∧ i' = .int .i64 i ∧ textTo s i = true) (fun i' => s.size - (intOf i').toNat)
    case atStart => exact ⟨0, by omega, rfl, rfl⟩
    case round =>
      obtain ⟨i, hi, rfl, ht⟩ := hrel
      by_cases hlt : i < s.size
      · have hg := getD_byte s i hlt
        have hts : textTo s (i + 1) = (decide (97 ≤ s[i].toNat) && decide (s[i].toNat ≤ 104)) := by simp only [textTo, ht, Bool.true_and, hg]
        by_cases h97 : 97 ≤ s[i].toNat ∧ s[i].toNat ≤ 104
        · have HT : Hid (textTo s (i + 1) = true) := by unfold Hid; rw [hts]; simp [h97.1, h97.2]
          have HC := isNote_yes (s[i].toNat : Int) w (by omega) (by omega)
          clear hts hg ht
          go_wp2_with fail
          refine HC.mono ?_
          rintro e w' ⟨rfl, rfl⟩
          clear HC
          go_wp2_with fail
          go_round
          case rel => exact ⟨i + 1, by omega, by go_num, HT.out⟩
          case measure => simp [intOf]; omega
        · have HT : Hid (textTo s s.size = false) := textTo_mono s (i + 1) _ (by omega) (by rw [hts]; simp; omega)
          have HC := isNote_no (s[i].toNat : Int) w (by omega)
          clear hts hg ht
          go_wp2_with fail
          refine HC.mono ?_
          rintro e w' ⟨rfl, rfl⟩
          clear HC
          go_wp2_with fail
          go_ret
          exact ⟨ret_bool HT.out.symm, rfl⟩
      · have e : i = s.size := by omega
        subst e
        have HT : Hid (textTo s s.size = true) := ht
        clear ht
        go_wp2_with fail
        go_ret
        exact ⟨ret_bool HT.out.symm, rfl⟩
  · have e : (decide (s.size ≤ 12) && textTo s s.size) = false := by simp [hl]
    rw [e]
    clear e
    go_enter Try.func59, Try.ntmps59
    go_wp2_with fail
    go_ret
    exact ⟨rfl, rfl⟩
end Go.Proofs.Ytpngikmcjkjdaab

namespace Go.Proofs.Ytpngikmcjkjdaab
open Go.RowKit
set_option linter.unusedVariables false
theorem run_append_fresh {P : Program} (w : World) (base : Nat) (t ty e : TypeId) (i : TypeInfo) (z : Value) (size bytes : Nat) (ht : P.underlying t = some (.slice e)) (hi : P.info? e = some i) (hz : i.zero = some z)
    (hsize : i.size = size) (hby : i.bytes = bytes) (hzs : z.cells.size = size) (hsz : 0 < size)
    (v : Value) (n : Nat) (xs : List Value) (hown : w.ownsRow base e size v n xs)
    (a : Addr) (m c : Nat) (news : List Value) (hl : news.length = m * size) (hnews : ∀ j u, news[j]? = some u → w.cell? (a.add j) = some u) (h1 : ∀ u ∈ news, u.oneCell' = true) (hm : 0 < m)
    (h63 : n + m ≤ maxLen) (hbytes : (n + m) * bytes ≤ 140737488355328) (hbase : base ≤ w.heap.size) :
    ∃ g cap w', (Builtin.append_ #[t, t] ty #[v, .slice (some a) m c]).run P w = .ok (.slice (some ⟨g, 0, none⟩) (n + m) cap) w' ∧ w'.ownsRow base e size (.slice (some ⟨g, 0, none⟩) (n + m) cap) (n + m) (xs ++ news) ∧
      w.grownBy w' v.ownBlock ∧ (v.ownBlock = some g ∨ g = w.heap.size) := by
  obtain ⟨v', w', hr, h2, h3, h4⟩ := run_append_own (P := P) w base t ty e i z size bytes ht hi hz hsize hby hzs hsz v n xs hown a m c news hl hnews h1 h63 hbytes hbase
  subst hsize
  subst hby
  have hsmall : n + m ≤ 9223372036854775807 := by simp only [maxLen] at h63; omega
  rcases hown.2 with ⟨rfl, rfl⟩ | ⟨g, cap, cur, rfl, hbg, hg, hnc, hcm, hcs, htake⟩
  · have hr2 := run_append_nil (P := P) w t ty e i z ht hi hz a m c news hl hnews hm (by omega) (by have hb := hbytes; simp only [Nat.zero_add] at hb; omega)
    rw [hr] at hr2
    injection hr2 with e1 e2
    rw [show m = 0 + m by omega] at e1
    subst e1
    exact ⟨_, _, w', hr, h2, h3, .inr rfl⟩
  · by_cases hroom : n + m ≤ cap
    · have hfit : n * i.size + news.length ≤ cur.size := by rw [hl, hcs, ← Nat.add_mul]; exact Nat.mul_le_mul_right _ hroom
      have hr2 := run_append_room (P := P) w t ty e i ht hi g n cap cur hg a m c news hl hnews h1 hroom hfit
      rw [hr] at hr2
      injection hr2 with e1 e2
      subst e1
      exact ⟨_, _, w', hr, h2, h3, .inl rfl⟩
    · have holds : ∀ j u, xs[j]? = some u → w.cell? ((⟨g, 0, none⟩ : Addr).add j) = some u := hown.cells (g := g) rfl
      have hr2 := run_append_grow (P := P) w t ty e i z ht hi hz ⟨g, 0, none⟩ n cap xs hown.1 holds a m c news hl hnews (by omega) (by omega) (growslice_fits (by omega) hbytes)
      rw [hr] at hr2
      injection hr2 with e1 e2
      subst e1
      exact ⟨_, _, w', hr, h2, h3, .inr rfl⟩
theorem wpList_append_fresh {P : Program} (w : World) {ops : Array Oper} {rest : List Oper} {o : Oper} {a : Act} {Q : Exit → Act → World → Prop} (hgd : o.guard = none) (s x : Operand) (t : TypeId)
    (ho : o.op = .call { callee := .builtin .append, args := #[s, x], argTypes := #[t, t] })
    (base : Nat) (e : TypeId) (i : TypeInfo) (z : Value) (size bytes : Nat) (ht : P.underlying t = some (.slice e)) (hi : P.info? e = some i) (hz : i.zero = some z)
    (hsize : i.size = size) (hby : i.bytes = bytes) (hzs : z.cells.size = size) (hsz : 0 < size)
    (v : Value) (n : Nat) (xs : List Value) (hs : a.eval s = v) (hown : w.ownsRow base e size v n xs)
    (ad : Addr) (m c : Nat) (news : List Value) (hx : a.eval x = .slice (some ad) m c) (hl : news.length = m * size) (hnews : ∀ j u, news[j]? = some u → w.cell? (ad.add j) = some u) (h1 : ∀ u ∈ news, u.oneCell' = true) (hm : 0 < m)
    (h63 : n + m ≤ maxLen) (hbytes : (n + m) * bytes ≤ 140737488355328) (hbase : base ≤ w.heap.size)
    (h : ∀ g cap w', w'.ownsRow base e size (.slice (some ⟨g, 0, none⟩) (n + m) cap) (n + m) (xs ++ news) → w.grownBy w' v.ownBlock → (v.ownBlock = some g ∨ g = w.heap.size) →
      wpList P ops Q rest (a.put o.dst (.slice (some ⟨g, 0, none⟩) (n + m) cap)) w') : wpList P ops Q (o :: rest) a w := by
  refine wpList_plain hgd fun K hK => ?_
  obtain ⟨g, cap, w', hr, h2, h3, h4⟩ := run_append_fresh (P := P) w base t o.type e i z size bytes ht hi hz hsize hby hzs hsz v n xs hown ad m c news hl hnews h1 hm h63 hbytes hbase
  unfold Oper.wp execOp
  simp only [ho, resolve, invoke, builtin, Sem.run_bind, Sem.run_pure, Result.andThen_ok, List.map_toArray, List.map_cons, List.map_nil, hs, hx, hr]
  exact hK _ _ (h g cap w' h2 h3 h4)
end Go.Proofs.Ytpngikmcjkjdaab

namespace Go.Proofs.Ytpngikmcjkjdaab
open Go.RowKit
set_option linter.unusedVariables false
theorem cell_two {w : World} {b : Nat} {x y : Value} {t : TypeId} (h : w.heap[b]? = some (.cells #[x, y] t (0, 0))) : w.cell? ⟨b, 0, none⟩ = some x ∧ w.cell? ⟨b, 1, none⟩ = some y ∧ w.frozen? ⟨b, 0, none⟩ = false ∧ w.frozen? ⟨b, 1, none⟩ = false := by
  simp [World.cell?, World.frozen?, h]
theorem two_set0 {w : World} {b : Nat} {x y u : Value} {t : TypeId} (h : w.heap[b]? = some (.cells #[x, y] t (0, 0))) : (w.setCell ⟨b, 0, none⟩ u).heap[b]? = some (.cells #[u, y] t (0, 0)) := by
  simp [World.setCell, Array.getElem?_modify, h]
theorem two_set1 {w : World} {b : Nat} {x y u : Value} {t : TypeId} (h : w.heap[b]? = some (.cells #[x, y] t (0, 0))) : (w.setCell ⟨b, 1, none⟩ u).heap[b]? = some (.cells #[x, u] t (0, 0)) := by
  simp [World.setCell, Array.getElem?_modify, h]
theorem res_two {w : World} {b : Nat} {x y u v : Value} {t : TypeId} (h : w.heap[b]? = some (.cells #[x, y] t (0, 0))) :
    (w.setCell ⟨b, 0, none⟩ u).cell? ⟨b, 0, none⟩ = some u ∧ ((w.setCell ⟨b, 0, none⟩ u).setCell ⟨b, 1, none⟩ v).cell? ⟨b, 1, none⟩ = some v ∧ ((w.setCell ⟨b, 0, none⟩ u).setCell ⟨b, 1, none⟩ v).cell? ⟨b, 0, none⟩ = some u :=
  ⟨(cell_two (two_set0 h)).1, (cell_two (two_set1 (two_set0 h))).2.1, (cell_two (two_set1 (two_set0 h))).1⟩
theorem heap_set_other {w : World} {a : Addr} {u : Value} {k : Nat} {o : Obj} (h : w.heap[k]? = some o) (hne : k ≠ a.block) : (w.setCell a u).heap[k]? = some o := by
  rw [Below.heap_setCell w a u k hne]; exact h
theorem heap_lt {w : World} {b : Nat} {o : Obj} (h : w.heap[b]? = some o) : b < w.heap.size := (Array.getElem?_eq_some_iff.1 h).1
structure TwoRows (W : World) (b : Nat) (t e0 s0 e1 s1 : Nat) (w : World) (v0 v1 : Value) (n0 n1 : Nat) (x0 x1 : List Value) : Prop where
  blw : Below b W w
  blk : w.heap[b]? = some (.cells #[v0, v1] t (0, 0))
  own0 : w.ownsRow (b + 1) e0 s0 v0 n0 x0
  own1 : w.ownsRow (b + 1) e1 s1 v1 n1 x1
  dis : ∀ g, v0.ownBlock = some g → v1.ownBlock = some g → False
variable {W : World} {b t e0 s0 e1 s1 : Nat} {w w1 w2 : World} {v0 v1 : Value} {n0 n1 : Nat} {x0 x1 : List Value}
theorem ownsRow_below {base e size n : Nat} {v : Value} {xs : List Value} (h : w.ownsRow base e size v n xs) (hb : Below w.heap.size w w1) : w1.ownsRow base e size v n xs :=
  h.kept (row := none) ⟨hb.os, hb.tape, hb.output, hb.size, fun k hk _ => hb.block k hk⟩ (by cases hv : v.ownBlock <;> simp)
theorem TwoRows.below (h : TwoRows W b t e0 s0 e1 s1 w v0 v1 n0 n1 x0 x1) (hb : Below w.heap.size w w1) : TwoRows W b t e0 s0 e1 s1 w1 v0 v1 n0 n1 x0 x1 where
  blw := h.blw.trans (hb.mono (by have := heap_lt h.blk; omega))
  blk := by rw [hb.block b (heap_lt h.blk)]; exact h.blk
  own0 := ownsRow_below h.own0 hb
  own1 := ownsRow_below h.own1 hb
  dis := h.dis
theorem TwoRows.grown0 (h : TwoRows W b t e0 s0 e1 s1 w v0 v1 n0 n1 x0 x1) (hg : w.grownBy w2 v0.ownBlock) : w2.heap[b]? = some (.cells #[v0, v1] t (0, 0)) := by
  rw [hg.block b (heap_lt h.blk) (fun e => by have := (h.own0.lt b e.symm).1; omega)]; exact h.blk
theorem TwoRows.grown1 (h : TwoRows W b t e0 s0 e1 s1 w v0 v1 n0 n1 x0 x1) (hg : w.grownBy w2 v1.ownBlock) : w2.heap[b]? = some (.cells #[v0, v1] t (0, 0)) := by
  rw [hg.block b (heap_lt h.blk) (fun e => by have := (h.own1.lt b e.symm).1; omega)]; exact h.blk
theorem TwoRows.put0 (h : TwoRows W b t e0 s0 e1 s1 w v0 v1 n0 n1 x0 x1) {g cap m : Nat} {ys : List Value} (hown : w2.ownsRow (b + 1) e0 s0 (.slice (some ⟨g, 0, none⟩) m cap) m ys) (hg : w.grownBy w2 v0.ownBlock)
    (hf : v0.ownBlock = some g ∨ g = w.heap.size) : TwoRows W b t e0 s0 e1 s1 (w2.setCell ⟨b, 0, none⟩ (.slice (some ⟨g, 0, none⟩) m cap)) (.slice (some ⟨g, 0, none⟩) m cap) v1 m n1 ys x1 where
  blw := by
    have hb1 := heap_lt h.blk
    exact (h.blw.grown hg (by omega) (fun k e => by have := (h.own0.lt k e).1; omega)).setCell (Nat.le_refl _) _
  blk := two_set0 (h.grown0 hg)
  own0 := ownsRow_setCell_below hown (by simp) _
  own1 := ownsRow_setCell_below (h.own1.kept hg (by
    cases hv : v1.ownBlock with
    | none => exact .inl rfl
    | some k => exact .inr (fun e => h.dis k e.symm hv))) (by simp) _
  dis := by
    intro k hk hk1
    simp only [Value.ownBlock, Option.some.injEq] at hk
    subst hk
    rcases hf with hf | rfl
    · exact h.dis _ hf hk1
    · have := (h.own1.lt _ hk1).2; omega
theorem TwoRows.put1 (h : TwoRows W b t e0 s0 e1 s1 w v0 v1 n0 n1 x0 x1) {g cap m : Nat} {ys : List Value} (hown : w2.ownsRow (b + 1) e1 s1 (.slice (some ⟨g, 0, none⟩) m cap) m ys) (hg : w.grownBy w2 v1.ownBlock)
    (hf : v1.ownBlock = some g ∨ g = w.heap.size) : TwoRows W b t e0 s0 e1 s1 (w2.setCell ⟨b, 1, none⟩ (.slice (some ⟨g, 0, none⟩) m cap)) v0 (.slice (some ⟨g, 0, none⟩) m cap) n0 m x0 ys where
  blw := by
    have hb1 := heap_lt h.blk
    exact (h.blw.grown hg (by omega) (fun k e => by have := (h.own1.lt k e).1; omega)).setCell (Nat.le_refl _) _
  blk := two_set1 (h.grown1 hg)
  own1 := ownsRow_setCell_below hown (by simp) _
  own0 := ownsRow_setCell_below (h.own0.kept hg (by
    cases hv : v0.ownBlock with
    | none => exact .inl rfl
    | some k => exact .inr (fun e => h.dis k hv e.symm))) (by simp) _
  dis := by
    intro k hk1 hk
    simp only [Value.ownBlock, Option.some.injEq] at hk
    subst hk
    rcases hf with hf | rfl
    · exact h.dis _ hk1 hf
    · have := (h.own0.lt _ hk1).2; omega
theorem ownsRow_shape {base e size n : Nat} {v : Value} {xs : List Value} (h : w.ownsRow base e size v n xs) : ∃ ao cap, v = .slice ao n cap ∧ (0 < n → ∃ g, ao = some ⟨g, 0, none⟩ ∧ ∀ j, j < n * size → w.cell? ⟨g, j, none⟩ = xs[j]?) := by
  rcases h.2 with ⟨rfl, rfl⟩ | ⟨g, cap, cur, rfl, r⟩
  · exact ⟨none, 0, rfl, fun h => absurd h (by omega)⟩
  · exact ⟨some ⟨g, 0, none⟩, cap, rfl, fun _ => ⟨g, rfl, fun j hj => h.cellAt j hj⟩⟩
end Go.Proofs.Ytpngikmcjkjdaab

namespace Go.Proofs.Ytpngikmcjkjdaab
open Go.RowKit
set_option linter.unusedVariables false
def ints (l : List Nat) : List Value := l.map fun k : Nat => .int .i64 (k : Int)
theorem heap_at_new {w : World} {o : Obj} {k : Nat} (h : k = w.heap.size) : (w.alloc o).heap[k]? = some o := by subst h; exact heap_alloc_new w o
theorem heap_at_old {w : World} {o o' : Obj} {k : Nat} (h : w.heap[k]? = some o') : (w.alloc o).heap[k]? = some o' := by rw [Below.heap_alloc w o k (heap_lt h)]; exact h
theorem cell_one_set (w : World) (a : Addr) (u v : Value) (t : TypeId) : ∀ j x, [v][j]? = some x → ((w.setCell a u).alloc (.cells #[v] t)).cell? ((⟨w.heap.size, 0, none⟩ : Addr).add j) = some x := by
  have h := cell_one_new (w.setCell a u) v t
  have hs : (w.setCell a u).heap.size = w.heap.size := by simp [World.setCell]
  rw [hs] at h
  exact h
theorem ints_snoc (l : List Nat) (x : Nat) : ints l ++ [.int .i64 (x : Int)] = ints (l ++ [x]) := by simp [ints]
theorem ints_at {w : World} {g n : Nat} {l : List Nat} (hl : l.length = n) (h : ∀ j, j < n * 1 → w.cell? ⟨g, j, none⟩ = (ints l)[j]?) : NatsAt w g n (fun i => l.getD i 0) := by
  intro i hi
  rw [h i (by omega)]
  simp [ints, List.getD_eq_getElem?_getD, List.getElem?_eq_getElem (show i < l.length by omega)]
theorem Try.info3 : (Try.prog.info? 3).map (fun i => (i.zero, i.size, i.bytes)) = some (some (.int .i64 0), 1, 8) := by kernel_rfl
def SplitPost (M : Tab) (f : Nat → Nat) (most : Nat) (w : World) (e : Ending) (w' : World) : Prop :=
  Below w.heap.size w w' ∧ ∃ vo gh ch os hs, e = .returned (.agg #[vo, .slice (some ⟨gh, 0, none⟩) hs.length ch]) ∧ w.heap.size ≤ gh ∧ NatsAt w' gh hs.length (fun i => hs.getD i 0) ∧
    ((hs.length ≤ most ∧ (∃ go co, vo = .slice (some ⟨go, 0, none⟩) M.n co ∧ w.heap.size ≤ go ∧ NatsAt w' go M.n (fun i => os.getD i 0)) ∧ SplitRel M f M.n os hs) ∨
     (hs.length = most + 1 ∧ (∃ ao lo co, vo = .slice ao lo co) ∧ (∀ c, c < hs.length → hs.getD c 0 < M.n) ∧ ∀ c d, c < d → d < hs.length → alikeB M f (hs.getD c 0) (hs.getD d 0) = false))
set_option maxRecDepth 20000 in
set_option maxHeartbeats 2000000 in
theorem split_ok (gw ga ca gn cn go co l0 c0 : Nat) (h0 : Option Addr) (M : Tab) (f : Nat → Nat) (most : Nat) (w : World) (hM : WideAt w gw ga ca gn cn M) (hf : NatsAt w go M.n f)
    (hm0 : 1 ≤ most) (hm1 : most ≤ 40) (hn0 : 1 ≤ M.n) (hn : M.n ≤ 100000000) (hnx : ∀ i c, i < M.n → c < 8 → M.nxt i c < M.n) :
    Calls Try.prog 91 #[.pointer (some ⟨gw, 0, none⟩), .agg #[.slice (some ⟨go, 0, none⟩) M.n co, .slice h0 l0 c0], .int .i64 most] w
      (SplitPost M f most w) := by
  obtain ⟨i0, hi, hz0, hz1, hz2⟩ := info_parts Try.info3
  obtain ⟨W, hW⟩ : ∃ W, W = ((w.alloc (.cells #[.slice (some ⟨go, 0, none⟩) M.n co, .slice h0 l0 c0] 149)).alloc
      (.cells #[.slice none 0 0, .slice none 0 0] 149)).alloc (.cells #[.slice none 0 0, .slice none 0 0] 149) := ⟨_, rfl⟩
  have BW : Below w.heap.size w W := by
    rw [hW]; exact (((Below.refl _ _).alloc (Nat.le_refl _) _).alloc (by simp) _).alloc (by simp; omega) _
  have hWs : W.heap.size = w.heap.size + 3 := by rw [hW]; simp
  have k2 : W.cell? ⟨w.heap.size, 0, none⟩ = some (.slice (some ⟨go, 0, none⟩) M.n co) := by rw [hW]; simp [go_sem]
  have k3 : W.cell? ⟨w.heap.size, 1, none⟩ = some (.slice h0 l0 c0) := by rw [hW]; simp [go_sem]
  have k4 : W.heap[w.heap.size + 1]? = some (.cells #[.slice none 0 0, .slice none 0 0] 149 (0, 0)) := by rw [hW]; exact heap_at_old (heap_at_new (by simp))
  have k5 : W.heap[w.heap.size + 1 + 1]? = some (.cells #[.slice none 0 0, .slice none 0 0] 149 (0, 0)) := by rw [hW]; exact heap_at_new (by simp)
  have HW := hW
  go_enter Try.func91, Try.ntmps91
  go_wp2
  rw [← hW]
  clear hW HW
  have T0 : TwoRows W (w.heap.size + 1 + 1) 149 3 1 3 1 W (.slice none 0 0) (.slice none 0 0) 0 0 [] [] :=
    ⟨Below.refl _ _, k5, World.ownsRow_nil _ _ _ _, World.ownsRow_nil _ _ _ _, by intro g h; simp [Value.ownBlock] at h⟩
  go_loopw [8, 9] (fun st _ wr => ∃ s : Nat, ∃ os hs : List Nat, ∃ vo vh : Value, s ≤ M.n ∧ st = .int .i64 s ∧ hs.length ≤ most ∧ SplitRel M f s os hs ∧
      TwoRows W (w.heap.size + 1 + 1) 149 3 1 3 1 wr vo vh s hs.length (ints os) (ints hs))
    (fun st _ _ => M.n - (intOf st).toNat)
  case atStart => exact ⟨0, [], [], _, _, by omega, rfl, by simp, SplitRel.nil M f, T0⟩
  case round =>
    obtain ⟨s, os, hs, vo, vh, hs1, rfl, hhm, hrel, hT⟩ := hrel
    clear T0
    have hbW : Below (w.heap.size + 1 + 1) W wr := hT.blw
    have hbw : Below w.heap.size w wr := BW.trans (hbW.mono (by omega))
    have x0 := (hM.below hbw).p0
    have x2 := (hbW.cell (p := ⟨w.heap.size, 0, none⟩) (by simp <;> omega)).trans k2
    have x3 := (hbW.cell (p := ⟨w.heap.size, 1, none⟩) (by simp <;> omega)).trans k3
    obtain ⟨y0, y1, z0, z1⟩ := cell_two hT.blk
    have hq : wr.heap[w.heap.size + 1]? = some (.cells #[.slice none 0 0, .slice none 0 0] 149 (0, 0)) := (hbW.block _ (by omega)).trans k4
    obtain ⟨q0, q1, p0, p1⟩ := cell_two hq
    obtain ⟨ah, ch, rfl, hah⟩ := ownsRow_shape hT.own1
    obtain ⟨ao, co', rfl, hao⟩ := ownsRow_shape hT.own0
    have hl := hrel.cls.hd
    by_cases hlt : s < M.n
    · obtain ⟨gh, hgh⟩ : ∃ gh, (0 < hs.length → ah = some ⟨gh, 0, none⟩) ∧ NatsAt wr gh hs.length (fun i => hs.getD i 0) := by
        by_cases h0 : 0 < hs.length
        · obtain ⟨g, hg, hc⟩ := hah h0
          exact ⟨g, fun _ => hg, ints_at rfl hc⟩
        · exact ⟨0, fun h => absurd h h0, fun i hi => absurd hi (by omega)⟩
      have HC := find_ok gw ga ca gn cn go co l0 c0 gh hs.length ch h0 ah M f (fun i => hs.getD i 0) s wr (hM.below hbw) (hf.below hbw) hgh.1 hgh.2 (by omega) (fun c hc => by have := (hl c hc).1; omega) hlt hn hnx
      have HT : Hid (TwoRows W (w.heap.size + 1 + 1) 149 3 1 3 1 wr (.slice ao s co') (.slice ah hs.length ch) s hs.length (ints os) (ints hs)) := hT
      have HR : Hid (SplitRel M f s os hs) := hrel
      clear hT hrel hM hf hnx hah hao hl hgh
      go_wp2_with fail
      refine HC.mono ?_
      rintro e w1 ⟨⟨r, hr, hno, hyes, rfl⟩, hb1⟩
      clear HC x0 x2 x3 y0 y1 z0 z1 hq q0 q1 p0 p1
      have hT1 := HT.out.below hb1
      have hbW1 : Below (w.heap.size + 1 + 1) W w1 := hT1.blw
      have HNO : Hid (∀ c, c < r → alikeB M f (hs.getD c 0) s = false) := hno
      have HYES : Hid (r < hs.length → alikeB M f (hs.getD r 0) s = true) := hyes
      clear hno hyes HT
      have x2 := (hbW1.cell (p := ⟨w.heap.size, 0, none⟩) (by simp <;> omega)).trans k2
      have x3 := (hbW1.cell (p := ⟨w.heap.size, 1, none⟩) (by simp <;> omega)).trans k3
      obtain ⟨y0, y1, z0, z1⟩ := cell_two hT1.blk
      have hsz := heap_lt hT1.blk
      have HT : Hid (TwoRows W (w.heap.size + 1 + 1) 149 3 1 3 1 w1 (.slice ao s co') (.slice ah hs.length ch) s hs.length (ints os) (ints hs)) := hT1
      have HB1 : Hid (Below wr.heap.size wr w1) := hb1
      have HBW : Hid (Below w.heap.size w wr) := hbw
      clear hT1 hb1 hbW1 hbw hbW
      by_cases hrl : r < hs.length
      · have hbn : ((r : Int) == (hs.length : Int)) = false := by simp; omega
        have HTa := HT.out.below ((Below.refl _ _).alloc (Nat.le_refl _) (.cells #[.int .i64 (r : Int)] 3))
        have hna := HTa.own0
        have hbo : w.heap.size + 1 + 1 + 1 ≤ (w1.alloc (.cells #[.int .i64 (r : Int)] 3)).heap.size := by simp; omega
        have HTA : Hid (TwoRows W (w.heap.size + 1 + 1) 149 3 1 3 1 (w1.alloc (.cells #[.int .i64 (r : Int)] 3)) (.slice ao s co') (.slice ah hs.length ch) s hs.length (ints os) (ints hs)) := HTa
        clear HTa
        go_wp2_with (at_builtin; refine wpList_append_fresh _ rfl _ _ 22 rfl (w.heap.size + 1 + 1 + 1) 3 i0 (.int .i64 0) 1 8 Try.underlying22 hi hz0 hz1 hz2 rfl (by decide) _ s (ints os) rfl hna ⟨w1.heap.size, 0, none⟩ 1 1 [.int .i64 (r : Int)] rfl rfl (cell_one_new _ _ _) (by intro u hu; simp at hu; subst hu; rfl) (by decide) (by unfold maxLen; omega) (by omega) hbo ?_; intro g cap w2 hown hgr hfr; obtain ⟨y0', y1', z0', z1'⟩ := cell_two (HTA.out.grown0 hgr))
        go_roundw
        case rel =>
          have hP := HTA.out.put0 hown hgr hfr
          rw [show ints os ++ [.int .i64 (r : Int)] = ints (os ++ [r]) from ints_snoc os r] at hP
          exact ⟨s + 1, os ++ [r], hs, _, _, by omega, by go_num, hhm, HR.out.old r hrl (HYES.out hrl) HNO.out, hP⟩
        case measure => simp [intOf]; omega
      · have hre : r = hs.length := by omega
        subst hre
        have HTa := HT.out.below ((Below.refl _ _).alloc (Nat.le_refl _) (.cells #[.int .i64 (s : Int)] 3))
        have hna := HTa.own1
        have hbo : w.heap.size + 1 + 1 + 1 ≤ (w1.alloc (.cells #[.int .i64 (s : Int)] 3)).heap.size := by simp; omega
        have HTA : Hid (TwoRows W (w.heap.size + 1 + 1) 149 3 1 3 1 (w1.alloc (.cells #[.int .i64 (s : Int)] 3)) (.slice ao s co') (.slice ah hs.length ch) s hs.length (ints os) (ints hs)) := HTa
        clear HTa
        have HT2 : ∀ g cap w2, w2.ownsRow (w.heap.size + 1 + 1 + 1) 3 1 (.slice (some ⟨g, 0, none⟩) (hs.length + 1) cap) (hs.length + 1) (ints hs ++ [.int .i64 (s : Int)]) →
            (w1.alloc (.cells #[.int .i64 (s : Int)] 3)).grownBy w2 (Value.slice ah hs.length ch).ownBlock → ((Value.slice ah hs.length ch).ownBlock = some g ∨ g = (w1.alloc (.cells #[.int .i64 (s : Int)] 3)).heap.size) →
            Hid (TwoRows W (w.heap.size + 1 + 1) 149 3 1 3 1 ((w2.setCell ⟨w.heap.size + 1 + 1, 1, none⟩ (.slice (some ⟨g, 0, none⟩) (hs.length + 1) cap)).alloc (.cells #[.int .i64 (hs.length : Int)] 3))
              (.slice ao s co') (.slice (some ⟨g, 0, none⟩) (hs.length + 1) cap) s (hs.length + 1) (ints os) (ints hs ++ [.int .i64 (s : Int)])) := fun g cap w2 ho hg hf =>
          (HTA.out.put1 ho hg hf).below ((Below.refl _ _).alloc (Nat.le_refl _) _)
        have q2 : ∀ g cap w2, w2.ownsRow (w.heap.size + 1 + 1 + 1) 3 1 (.slice (some ⟨g, 0, none⟩) (hs.length + 1) cap) (hs.length + 1) (ints hs ++ [.int .i64 (s : Int)]) →
            (w1.alloc (.cells #[.int .i64 (s : Int)] 3)).grownBy w2 (Value.slice ah hs.length ch).ownBlock → ((Value.slice ah hs.length ch).ownBlock = some g ∨ g = (w1.alloc (.cells #[.int .i64 (s : Int)] 3)).heap.size) →
            w2.heap[w.heap.size + 1]? = some (.cells #[.slice none 0 0, .slice none 0 0] 149 (0, 0)) := fun g cap w2 ho hg hf => by
          have h1 := hg.block (w.heap.size + 1) (by simp; omega) (fun e => by have := (HTA.out.own1.lt _ e.symm).1; omega)
          rw [h1, HTA.out.blw.block _ (by omega)]; exact k4
        by_cases hmo : hs.length + 1 ≤ most
        · have HNO2 := HNO
          go_wp2_with (first | (at_builtin; refine wpList_append_fresh _ rfl _ _ 22 rfl (w.heap.size + 1 + 1 + 1) 3 i0 (.int .i64 0) 1 8 Try.underlying22 hi hz0 hz1 hz2 rfl (by decide) _ hs.length (ints hs) rfl hna ⟨w1.heap.size, 0, none⟩ 1 1 [.int .i64 (s : Int)] rfl rfl (cell_one_new _ _ _) (by intro u hu; simp at hu; subst hu; rfl) (by decide) (by unfold maxLen; omega) (by omega) hbo ?_; intro g cap w2 hown hgr hfr; obtain ⟨y0', y1', z0', z1'⟩ := cell_two (HTA.out.grown1 hgr); have hq2 := q2 g cap w2 hown hgr hfr; obtain ⟨q0, q1, p0, p1⟩ := cell_two hq2) | (at_builtin; refine wpList_append_fresh _ rfl _ _ 22 rfl (w.heap.size + 1 + 1 + 1) 3 i0 (.int .i64 0) 1 8 Try.underlying22 hi hz0 hz1 hz2 rfl (by decide) _ s (ints os) rfl (HT2 g cap w2 hown hgr hfr).out.own0 ⟨w2.heap.size, 0, none⟩ 1 1 [.int .i64 (hs.length : Int)] rfl rfl (cell_one_set _ _ _ _ _) (by intro u hu; simp at hu; subst hu; rfl) (by decide) (by unfold maxLen; omega) (by omega) (by have := hgr.size; simp at this ⊢; omega) ?_; intro g2 cap2 w3 hown2 hgr2 hfr2; obtain ⟨y0', y1', z0', z1'⟩ := cell_two ((HT2 g cap w2 hown hgr hfr).out.grown0 hgr2)))
          go_roundw
          case rel =>
            have hP := (HT2 g cap w2 hown hgr hfr).out.put0 hown2 hgr2 hfr2
            rw [show ints os ++ [.int .i64 (hs.length : Int)] = ints (os ++ [hs.length]) from ints_snoc os _, show ints hs ++ [.int .i64 (s : Int)] = ints (hs ++ [s]) from ints_snoc hs _] at hP
            exact ⟨s + 1, os ++ [hs.length], hs ++ [s], _, _, by omega, by go_num, by simp; omega, HR.out.new HNO.out, by simpa using hP⟩
          case measure => simp [intOf]; omega
        · go_wp2_with (at_builtin; refine wpList_append_fresh _ rfl _ _ 22 rfl (w.heap.size + 1 + 1 + 1) 3 i0 (.int .i64 0) 1 8 Try.underlying22 hi hz0 hz1 hz2 rfl (by decide) _ hs.length (ints hs) rfl hna ⟨w1.heap.size, 0, none⟩ 1 1 [.int .i64 (s : Int)] rfl rfl (cell_one_new _ _ _) (by intro u hu; simp at hu; subst hu; rfl) (by decide) (by unfold maxLen; omega) (by omega) hbo ?_; intro g cap w2 hown hgr hfr; obtain ⟨y0', y1', z0', z1'⟩ := cell_two (HTA.out.grown1 hgr); have hq2 := q2 g cap w2 hown hgr hfr; obtain ⟨q0, q1, p0, p1⟩ := cell_two hq2)
          obtain ⟨r1, r2, r3⟩ := res_two (u := .slice ao s co') (v := .slice (some ⟨g, 0, none⟩) (hs.length + 1) cap) (heap_set_other (a := ⟨w.heap.size + 1 + 1, 1, none⟩) (u := .slice (some ⟨g, 0, none⟩) (hs.length + 1) cap) hq2 (by simp))
          refine bodyPost_ret (v := .agg #[.slice ao s co', .slice (some ⟨g, 0, none⟩) (hs.length + 1) cap]) (by simp [results, Try.results91, go_sem, r1, r2]) rfl ?_
          have hT2 := HTA.out.put1 hown hgr hfr
          have hB := (hT2.blw.mono (B' := w.heap.size + 1) (by omega)).setCell (p := ⟨w.heap.size + 1, 0, none⟩) (Nat.le_refl _) (.slice ao s co')
          have hB2 := hB.setCell (p := ⟨w.heap.size + 1, 1, none⟩) (Nat.le_refl _) (.slice (some ⟨g, 0, none⟩) (hs.length + 1) cap)
          have hO := ownsRow_setCell_below (ownsRow_setCell_below hT2.own1 (a := ⟨w.heap.size + 1, 0, none⟩) (by simp) (.slice ao s co')) (a := ⟨w.heap.size + 1, 1, none⟩) (by simp) (.slice (some ⟨g, 0, none⟩) (hs.length + 1) cap)
          have hN := HR.out.new HNO.out
          have hc := hO.cellAt
          rw [ints_snoc] at hc
          refine ⟨BW.trans (hB2.mono (by omega)), .slice ao s co', g, cap, os, hs ++ [s], by simp, by have := (hT2.own1.lt g rfl).1; omega, ?_, .inr ⟨by simp; omega, ⟨_, _, _, rfl⟩, fun c hc => ?_, hN.heads⟩⟩
          · exact ints_at rfl (fun j hj => hc j (by simpa using hj))
          · have := (hN.cls.hd c hc).1; omega
    · have hse : s = M.n := by omega
      subst hse
      have HT : Hid (TwoRows W (w.heap.size + 1 + 1) 149 3 1 3 1 wr (.slice ao M.n co') (.slice ah hs.length ch) M.n hs.length (ints os) (ints hs)) := hT
      have HR : Hid (SplitRel M f M.n os hs) := hrel
      clear hT hrel hM hf hnx hl
      go_wp2
      obtain ⟨r1, r2, r3⟩ := res_two (u := .slice ao M.n co') (v := .slice ah hs.length ch) hq
      refine bodyPost_ret (v := .agg #[.slice ao M.n co', .slice ah hs.length ch]) (by simp [results, Try.results91, go_sem, r1, r2]) rfl ?_
      have hB := (HT.out.blw.mono (B' := w.heap.size + 1) (by omega)).setCell (p := ⟨w.heap.size + 1, 0, none⟩) (Nat.le_refl _) (.slice ao M.n co')
      have hB2 := hB.setCell (p := ⟨w.heap.size + 1, 1, none⟩) (Nat.le_refl _) (.slice ah hs.length ch)
      have hO0 := ownsRow_setCell_below (ownsRow_setCell_below HT.out.own0 (a := ⟨w.heap.size + 1, 0, none⟩) (by simp) (.slice ao M.n co')) (a := ⟨w.heap.size + 1, 1, none⟩) (by simp) (.slice ah hs.length ch)
      have hO1 := ownsRow_setCell_below (ownsRow_setCell_below HT.out.own1 (a := ⟨w.heap.size + 1, 0, none⟩) (by simp) (.slice ao M.n co')) (a := ⟨w.heap.size + 1, 1, none⟩) (by simp) (.slice ah hs.length ch)
      have hlen : 0 < hs.length := by have := HR.out.cls.lt 0 (by omega); omega
      obtain ⟨gh, rfl, _⟩ := hah hlen
      obtain ⟨go', rfl, _⟩ := hao (by omega)
      exact ⟨BW.trans (hB2.mono (by omega)), _, gh, ch, os, hs, rfl, by have := (hO1.lt gh rfl).1; omega, ints_at rfl (fun j hj => hO1.cellAt j hj), .inl ⟨hhm, ⟨go', co', rfl, by have := (hO0.lt go' rfl).1; omega, ints_at HR.out.len (fun j hj => hO0.cellAt j hj)⟩, HR.out⟩⟩
end Go.Proofs.Ytpngikmcjkjdaab

namespace Go.Proofs.Ytpngikmcjkjdaab
open Go.RowKit
set_option linter.unusedVariables false
theorem Try.info4 : (Try.prog.info? 4).map (fun i => (i.zero, i.size, i.bytes)) = some (some (.bool false), 1, 1) := by kernel_rfl
theorem Try.infoR : (Try.prog.info? 22).map (fun i => (i.zero, i.size, i.bytes)) = some (some (.slice none 0 0), 1, 24) := by kernel_rfl
structure MergeAt (B : Nat) (W w : World) (gA gN bT n : Nat) (k : Nat) (A : Nat → Bool) (X : Nat → Nat → Nat) (R : Nat → Nat) : Prop where
  blw : Below (B + 1 + 1) W w
  blk : w.heap[bT]? = some (.cells #[.slice (some ⟨gA, 0, none⟩) n n, .slice (some ⟨gN, 0, none⟩) n n] 30 (0, 0))
  rA : w.rowIs gA 4 n (fun i => if i < k then .bool (A i) else .bool false)
  rN : w.rowIs gN 22 n (fun i => if i < k then .slice (some ⟨R i, 0, none⟩) 8 8 else .slice none 0 0)
  rR : ∀ i, i < k → w.rowIs (R i) 3 8 (fun c => .int .i64 (X i c))
  loA : B + 2 ≤ gA
  loN : B + 2 ≤ gN
  loT : B + 2 ≤ bT
  dAN : gA ≠ gN
  dAT : gA ≠ bT
  dNT : gN ≠ bT
  dR : ∀ i, i < k → R i ≠ gA ∧ R i ≠ gN ∧ R i ≠ bT ∧ B + 2 ≤ R i
  inj : ∀ i j, i < j → j < k → R i ≠ R j
variable {B : Nat} {W w w1 : World} {gA gN bT n k : Nat} {A : Nat → Bool} {X : Nat → Nat → Nat} {R : Nat → Nat}
theorem MergeAt.alloc (h : MergeAt B W w gA gN bT n k A X R) (o : Obj) : MergeAt B W (w.alloc o) gA gN bT n k A X R where
  blw := h.blw.alloc (by have := heap_lt h.blk; have := h.loT; omega) o
  blk := heap_at_old h.blk
  rA := h.rA.alloc o
  rN := h.rN.alloc o
  rR i hi := (h.rR i hi).alloc o
  loA := h.loA
  loN := h.loN
  loT := h.loT
  dAN := h.dAN
  dAT := h.dAT
  dNT := h.dNT
  dR := h.dR
  inj := h.inj
theorem MergeAt.drew (h : MergeAt B W w gA gN bT n k A X R) : MergeAt B W w.drew gA gN bT n k A X R :=
  ⟨h.blw.drew, h.blk, h.rA, h.rN, h.rR, h.loA, h.loN, h.loT, h.dAN, h.dAT, h.dNT, h.dR, h.inj⟩
theorem MergeAt.setOther (h : MergeAt B W w gA gN bT n k A X R) {a : Addr} (v : Value) (h0 : B + 2 ≤ a.block) (h1 : a.block ≠ gA) (h2 : a.block ≠ gN) (h3 : a.block ≠ bT) (h4 : ∀ i, i < k → R i ≠ a.block) :
    MergeAt B W (w.setCell a v) gA gN bT n k A X R where
  blw := h.blw.setCell h0 v
  blk := heap_set_other h.blk (fun e => h3 e.symm)
  rA := h.rA.setOther (fun e => h1 e.symm) v
  rN := h.rN.setOther (fun e => h2 e.symm) v
  rR i hi := (h.rR i hi).setOther (h4 i hi) v
  loA := h.loA
  loN := h.loN
  loT := h.loT
  dAN := h.dAN
  dAT := h.dAT
  dNT := h.dNT
  dR := h.dR
  inj := h.inj
theorem MergeAt.next (h : MergeAt B W w gA gN bT n k A X R) {g : Nat} (hg : w.rowIs g 3 8 (fun c => .int .i64 (X k c))) (hd : g ≠ gA ∧ g ≠ gN ∧ g ≠ bT ∧ B + 2 ≤ g) (hk : k < n) (hne : ∀ i, i < k → R i ≠ g) :
    MergeAt B W ((w.setCell ⟨gA, k, none⟩ (.bool (A k))).setCell ⟨gN, k, none⟩ (.slice (some ⟨g, 0, none⟩) 8 8)) gA gN bT n (k + 1) A X (fun i => if i = k then g else R i) where
  blw := (h.blw.setCell (p := ⟨gA, k, none⟩) h.loA _).setCell (p := ⟨gN, k, none⟩) h.loN _
  blk := heap_set_other (heap_set_other h.blk (fun e => h.dAT e.symm)) (fun e => h.dNT e.symm)
  rA := ((h.rA.set k (.bool (A k))).setOther h.dAN _).congr (fun i hi => by
    by_cases e : i = k
    · subst e; simp
    · simp only [if_neg e]; by_cases h' : i < k
      · rw [if_pos h', if_pos (by omega)]
      · rw [if_neg h', if_neg (by omega)])
  rN := ((h.rN.setOther (a := ⟨gA, k, none⟩) (fun e => h.dAN e.symm) _).set k _).congr (fun i hi => by
    by_cases e : i = k
    · subst e; simp
    · simp only [if_neg e]; by_cases h' : i < k
      · rw [if_pos h', if_pos (by omega)]
      · rw [if_neg h', if_neg (by omega)])
  rR i hi := by
    by_cases e : i = k
    · subst e; simp only [if_true]; exact (hg.setOther hd.1 _).setOther hd.2.1 _
    · simp only [if_neg e]
      have := h.dR i (by omega)
      exact ((h.rR i (by omega)).setOther this.1 _).setOther this.2.1 _
  loA := h.loA
  loN := h.loN
  loT := h.loT
  dAN := h.dAN
  dAT := h.dAT
  dNT := h.dNT
  dR i hi := by
    by_cases e : i = k
    · subst e; simp only [if_true]; exact hd
    · simp only [if_neg e]; exact h.dR i (by omega)
  inj i j hij hj := by
    by_cases e : j = k
    · subst e; simp only [if_true, if_neg (show i ≠ j by omega)]; exact hne i (by omega)
    · simp only [if_neg e, if_neg (show i ≠ k by omega)]; exact h.inj i j hij (by omega)
theorem madeCells_rowIs {w : World} {b t n : Nat} {z : Value} (h : w.heap[b]? = some (.cells (madeCells #[z] n) t (0, 0))) : w.rowIs b t n (fun _ => z) :=
  ⟨_, h, size_madeCells _ _, fun i hi => by simp [madeCells, hi, Nat.mod_one]⟩
theorem MergeAt.start (hb : Below (B + 1 + 1) W w) (hT : w.heap[bT]? = some (.cells #[.slice (some ⟨gA, 0, none⟩) n n, .slice (some ⟨gN, 0, none⟩) n n] 30 (0, 0)))
    (hA : w.heap[gA]? = some (.cells (madeCells #[.bool false] n) 4 (0, 0))) (hN : w.heap[gN]? = some (.cells (madeCells #[.slice none 0 0] n) 22 (0, 0)))
    (h1 : B + 2 ≤ gA) (h2 : B + 2 ≤ gN) (h3 : B + 2 ≤ bT) (h4 : gA ≠ gN) (h5 : gA ≠ bT) (h6 : gN ≠ bT) : MergeAt B W w gA gN bT n 0 A X (fun _ => 0) :=
  ⟨hb, hT, (madeCells_rowIs hA).congr (fun i _ => by simp), (madeCells_rowIs hN).congr (fun i _ => by simp), fun i hi => absurd hi (by omega), h1, h2, h3, h4, h5, h6, fun i hi => absurd hi (by omega), fun i j _ hj => absurd hj (by omega)⟩
structure Fresh (w : World) (V : Lay) (n : Nat) : Prop where
  oa : V.oa = 0
  on : V.on = 0
  ca : V.ca = n
  cn : V.cn = n
  ro : ∀ i, i < n → V.ro i = 0 ∧ V.rc i = 8
  inj : ∀ i j, i < j → j < n → V.rb i ≠ V.rb j
  sa : ∃ c, w.heap[V.ba]? = some (.cells c 4 (0, 0)) ∧ n ≤ c.size
  sn : ∃ c, w.heap[V.bn]? = some (.cells c 22 (0, 0)) ∧ n ≤ c.size
  sr : ∀ i, i < n → ∃ c, w.heap[V.rb i]? = some (.cells c 3 (0, 0)) ∧ 8 ≤ c.size
theorem shape_set {w : World} {b t m : Nat} (h : ∃ c, w.heap[b]? = some (.cells c t (0, 0)) ∧ m ≤ c.size) (q o : Nat) (u : Value) : ∃ c, (w.setCell ⟨q, o, none⟩ u).heap[b]? = some (.cells c t (0, 0)) ∧ m ≤ c.size := by
  obtain ⟨c, hb, hm⟩ := h
  by_cases e : b = q
  · subst e
    refine ⟨c.setIfInBounds o u, ?_, by simpa using hm⟩
    simp [World.setCell, Array.getElem?_modify, hb]
  · exact ⟨c, heap_set_other hb e, hm⟩
theorem shape_below {w w' : World} {b t m : Nat} (h : ∃ c, w.heap[b]? = some (.cells c t (0, 0)) ∧ m ≤ c.size) (hb : Below w.heap.size w w') : ∃ c, w'.heap[b]? = some (.cells c t (0, 0)) ∧ m ≤ c.size := by
  obtain ⟨c, hc, hm⟩ := h
  exact ⟨c, by rw [hb.block _ (heap_lt hc)]; exact hc, hm⟩
theorem Fresh.set {w : World} {V : Lay} {n : Nat} (h : Fresh w V n) (q o : Nat) (u : Value) : Fresh (w.setCell ⟨q, o, none⟩ u) V n :=
  ⟨h.oa, h.on, h.ca, h.cn, h.ro, h.inj, shape_set h.sa q o u, shape_set h.sn q o u, fun i hi => shape_set (h.sr i hi) q o u⟩
theorem Fresh.below {w w' : World} {V : Lay} {n : Nat} (h : Fresh w V n) (hb : Below w.heap.size w w') : Fresh w' V n :=
  ⟨h.oa, h.on, h.ca, h.cn, h.ro, h.inj, shape_below h.sa hb, shape_below h.sn hb, fun i hi => shape_below (h.sr i hi) hb⟩
theorem shape_row {w : World} {b t m : Nat} {f : Nat → Value} (h : w.rowIs b t m f) : ∃ c, w.heap[b]? = some (.cells c t (0, 0)) ∧ m ≤ c.size := by
  obtain ⟨c, hb, hn, _⟩ := h
  exact ⟨c, hb, by omega⟩
set_option maxRecDepth 20000 in
set_option maxHeartbeats 2000000 in
theorem merge_ok (gw ga ca gn cn go co gh ch : Nat) (M : Tab) (f : Nat → Nat) (hs : List Nat) (w : World) (hM : WideAt w gw ga ca gn cn M) (hf : NatsAt w go M.n f) (hh : NatsAt w gh hs.length (fun i => hs.getD i 0))
    (hl0 : 1 ≤ hs.length) (hl : hs.length ≤ 40) (hhd : ∀ c, c < hs.length → hs.getD c 0 < M.n) (hn : M.n ≤ 100000000) (hnx : ∀ i c, i < M.n → c < 8 → M.nxt i c < M.n) :
    Calls Try.prog 92 #[.pointer (some ⟨gw, 0, none⟩), .agg #[.slice (some ⟨go, 0, none⟩) M.n co, .slice (some ⟨gh, 0, none⟩) hs.length ch]] w
      fun e w' => ∃ V : Lay, e = .returned (.agg #[.slice (some ⟨V.ba, V.oa, none⟩) hs.length V.ca, .slice (some ⟨V.bn, V.on, none⟩) hs.length V.cn]) ∧ TabAt w' V (merged M f hs) ∧ V.From w.heap.size hs.length ∧ Below w.heap.size w w' ∧ Fresh w' V hs.length := by
  have mk1 := run_make_row' (P := Try.prog) 27 4 (.bool false) 1 Try.underlying27 Try.info4 rfl .i64 .i64 hs.length (by omega) (by omega)
  have mk2 := run_make_row' (P := Try.prog) 28 22 (.slice none 0 0) 24 Try.underlying28 Try.infoR rfl .i64 .i64 hs.length (by omega) (by omega)
  have mk3 := run_make_row' (P := Try.prog) 22 3 (.int .i64 0) 8 Try.underlying22 Try.info3 rfl .i64 .i64 8 (by omega) (by omega)
  obtain ⟨W, hW⟩ : ∃ W, W = (w.alloc (.cells #[.slice (some ⟨go, 0, none⟩) M.n co, .slice (some ⟨gh, 0, none⟩) hs.length ch] 149)).alloc
      (.cells #[.slice none 0 0, .slice none 0 0] 30) := ⟨_, rfl⟩
  have BW : Below w.heap.size w W := by
    rw [hW]; exact ((Below.refl _ _).alloc (Nat.le_refl _) _).alloc (by simp) _
  have hWs : W.heap.size = w.heap.size + 1 + 1 := by rw [hW]; simp
  have k2 : W.cell? ⟨w.heap.size, 0, none⟩ = some (.slice (some ⟨go, 0, none⟩) M.n co) := by rw [hW]; simp [go_sem]
  have k3 : W.cell? ⟨w.heap.size, 1, none⟩ = some (.slice (some ⟨gh, 0, none⟩) hs.length ch) := by rw [hW]; simp [go_sem]
  have k4 : W.heap[w.heap.size + 1]? = some (.cells #[.slice none 0 0, .slice none 0 0] 30 (0, 0)) := by rw [hW]; exact heap_at_new (by simp)
  go_enter Try.func92, Try.ntmps92
  go_upto_region 2 with fail
  rw [← hW]
  clear hW
  go_cut [6] (fun p wc => ∃ gA gN bT : Nat, p = .pointer (some ⟨bT, 0, none⟩) ∧ MergeAt w.heap.size W wc gA gN bT hs.length 0 (fun i => M.acc (hs.getD i 0)) (fun i c => f (M.nxt (hs.getD i 0) c)) (fun _ => 0))
  case first =>
    go_region
    all_goals go_wp2_with fail
    all_goals go_meet
    all_goals first | (refine ⟨w.heap.size + 1 + 1, w.heap.size + 1 + 1 + 1, _, rfl, MergeAt.drew (MergeAt.start ?_ ?_ ?_ ?_ ?_ ?_ ?_ ?_ ?_ ?_)⟩ <;> (first | omega | exact (((Below.refl _ _).alloc (by omega) _).alloc (by simp; omega) _).alloc (by simp; omega) _ | exact heap_at_new (by simp [hWs]) | exact heap_at_old (heap_at_new (by simp [hWs])) | exact heap_at_old (heap_at_old (heap_at_new (by simp [hWs])))); done) | (refine ⟨w.heap.size + 1 + 1, w.heap.size + 1 + 1 + 1 + 1, _, rfl, MergeAt.drew (MergeAt.start ?_ ?_ ?_ ?_ ?_ ?_ ?_ ?_ ?_ ?_)⟩ <;> (first | omega | exact (((Below.refl _ _).alloc (by omega) _).alloc (by simp; omega) _).alloc (by simp; omega) _ | exact heap_at_new (by simp [hWs]) | exact heap_at_old (heap_at_new (by simp [hWs])) | exact heap_at_old (heap_at_old (heap_at_new (by simp [hWs])))); done) | (refine ⟨w.heap.size + 1 + 1 + 1, w.heap.size + 1 + 1, _, rfl, MergeAt.drew (MergeAt.start ?_ ?_ ?_ ?_ ?_ ?_ ?_ ?_ ?_ ?_)⟩ <;> (first | omega | exact (((Below.refl _ _).alloc (by omega) _).alloc (by simp; omega) _).alloc (by simp; omega) _ | exact heap_at_new (by simp [hWs]) | exact heap_at_old (heap_at_new (by simp [hWs])) | exact heap_at_old (heap_at_old (heap_at_new (by simp [hWs])))); done) | (refine ⟨w.heap.size + 1 + 1 + 1, w.heap.size + 1 + 1 + 1 + 1, _, rfl, MergeAt.drew (MergeAt.start ?_ ?_ ?_ ?_ ?_ ?_ ?_ ?_ ?_ ?_)⟩ <;> (first | omega | exact (((Below.refl _ _).alloc (by omega) _).alloc (by simp; omega) _).alloc (by simp; omega) _ | exact heap_at_new (by simp [hWs]) | exact heap_at_old (heap_at_new (by simp [hWs])) | exact heap_at_old (heap_at_old (heap_at_new (by simp [hWs])))); done) | (refine ⟨w.heap.size + 1 + 1 + 1 + 1, w.heap.size + 1 + 1, _, rfl, MergeAt.drew (MergeAt.start ?_ ?_ ?_ ?_ ?_ ?_ ?_ ?_ ?_ ?_)⟩ <;> (first | omega | exact (((Below.refl _ _).alloc (by omega) _).alloc (by simp; omega) _).alloc (by simp; omega) _ | exact heap_at_new (by simp [hWs]) | exact heap_at_old (heap_at_new (by simp [hWs])) | exact heap_at_old (heap_at_old (heap_at_new (by simp [hWs])))); done) | (refine ⟨w.heap.size + 1 + 1 + 1 + 1, w.heap.size + 1 + 1 + 1, _, rfl, MergeAt.drew (MergeAt.start ?_ ?_ ?_ ?_ ?_ ?_ ?_ ?_ ?_ ?_)⟩ <;> (first | omega | exact (((Below.refl _ _).alloc (by omega) _).alloc (by simp; omega) _).alloc (by simp; omega) _ | exact heap_at_new (by simp [hWs]) | exact heap_at_old (heap_at_new (by simp [hWs])) | exact heap_at_old (heap_at_old (heap_at_new (by simp [hWs])))); done)
  case rest =>
    obtain ⟨gA, gN, bT, rfl, hMA⟩ := hcut
    simp only [show ((8 : Nat) : Int) = 8 from rfl] at mk3
    have z3 := (hMA.blw.cell (p := ⟨w.heap.size, 1, none⟩) (by simp <;> omega)).trans k3
    go_wp2_with fail
    clear z3
    go_loopw [22] (fun ix wr => ∃ k : Nat, ∃ R : Nat → Nat, k ≤ hs.length ∧ ix = .int .i64 k ∧ MergeAt w.heap.size W wr gA gN bT hs.length k (fun i => M.acc (hs.getD i 0)) (fun i c => f (M.nxt (hs.getD i 0) c)) R)
      (fun ix _ => hs.length - (intOf ix).toNat)
    case atStart => exact ⟨0, _, by omega, rfl, hMA⟩
    case round =>
      obtain ⟨k, R, hk, rfl, hMr⟩ := hrel
      clear hMA mk1 mk2
      have hbW := hMr.blw
      have hbw : Below w.heap.size w wr := BW.trans (hbW.mono (by omega))
      by_cases hlt : k < hs.length
      · have x := hh.below hbw k hlt
        have hkn := hhd k hlt
        have HM : Hid (MergeAt w.heap.size W wr gA gN bT hs.length k (fun i => M.acc (hs.getD i 0)) (fun i c => f (M.nxt (hs.getD i 0) c)) R) := hMr
        clear hMr hbW
        simp only at x
        obtain ⟨h1, HH1⟩ : ∃ h1, Hid (hs.getD k 0 = h1) := ⟨_, rfl⟩
        rw [HH1.out] at x hkn
        go_wp2_with fail
        clear x mk3
        have hsz : bT < wr.heap.size ∧ gA < wr.heap.size ∧ gN < wr.heap.size := ⟨heap_lt HM.out.blk, HM.out.rA.lt, HM.out.rN.lt⟩
        have hlo : w.heap.size + 2 ≤ wr.heap.size := by have := HM.out.loT; omega
        have hltR : ∀ i, i < k → R i < wr.heap.size := fun i hi => (HM.out.rR i hi).lt
        rename World => wo
        go_loopw [10] (fun c' wi => ∃ c : Nat, c ≤ 8 ∧ c' = .int .i64 c ∧ MergeAt w.heap.size W wi gA gN bT hs.length k (fun i => M.acc (hs.getD i 0)) (fun i c => f (M.nxt (hs.getD i 0) c)) R ∧
            wi.rowIs wo.heap.size 3 8 (fun j => if j < c then .int .i64 (f (M.nxt h1 j)) else .int .i64 0))
          (fun c' _ => 8 - (intOf c').toNat)
        case atStart => exact ⟨0, by omega, rfl, HM.out.alloc _, (madeCells_rowIs (heap_at_new rfl)).congr (fun i _ => by simp)⟩
        case round =>
          obtain ⟨c, hc, rfl, hMi, hri⟩ := hrel
          have hbWi := hMi.blw
          have hbwi : Below w.heap.size w wr := BW.trans (hbWi.mono (by omega))
          have x0 := (hM.below hbwi).p0
          have x1 := (hM.below hbwi).p1
          have x2 := (hbWi.cell (p := ⟨w.heap.size, 0, none⟩) (by simp <;> omega)).trans k2
          by_cases hlc : c < 8
          · have c1 := (hM.below hbwi).cel _ c hkn hlc
            have n1 := hnx _ c hkn hlc
            have c2 := hf.below hbwi _ n1
            have c3 := hri.cell hlc
            have c4 := hri.frozen c
            simp only [Nat.lt_irrefl, if_false] at c3
            have HMi : Hid (MergeAt w.heap.size W wr gA gN bT hs.length k (fun i => M.acc (hs.getD i 0)) (fun i c => f (M.nxt (hs.getD i 0) c)) R) := hMi
            have HRi : Hid (wr.rowIs wo.heap.size 3 8 (fun j => if j < c then .int .i64 (f (M.nxt h1 j)) else .int .i64 0)) := hri
            have HLR : Hid (∀ i, i < k → R i < wo.heap.size) := hltR
            clear hMi hri hM hf hnx hbWi hbwi hh hhd hltR
            go_wp2_with fail
            go_region
            go_wp2
            go_roundw
            case rel =>
              refine ⟨c + 1, by omega, by go_num, ?_, ?_⟩
              · exact (HMi.out.drew).setOther _ (by have := hlo; simp; omega) (by simp; omega) (by simp; omega) (by simp; omega) (fun i hi => by have := HLR.out i hi; simp; omega)
              · exact (HRi.out.drew.set c _).congr (fun j _ => by
                  by_cases e : j = c
                  · subst e; simp
                  · simp only [if_neg e]; by_cases h' : j < c
                    · rw [if_pos h', if_pos (by omega)]
                    · rw [if_neg h', if_neg (by omega)])
            case measure => simp [intOf]; omega
          · have he : c = 8 := by omega
            subst he
            have c1 := (hM.below hbwi).acc _ hkn
            obtain ⟨y0, y1, _, _⟩ := cell_two hMi.blk
            have c3 := hMi.rA.cell hlt
            have c4 := hMi.rA.frozen k
            have c5 := hMi.rN.cell hlt
            have c6 := hMi.rN.frozen k
            have d1 := hMi.dAN
            have d2 := hMi.dAT
            have d3 := hMi.dNT
            have d4 : ¬ gN = gA := fun e => d1 e.symm
            have d5 : ¬ bT = gA := fun e => d2 e.symm
            have d6 : ¬ bT = gN := fun e => d3 e.symm
            simp only [Nat.lt_irrefl, if_false] at c3 c5
            have HMi : Hid (MergeAt w.heap.size W wr gA gN bT hs.length k (fun i => M.acc (hs.getD i 0)) (fun i c => f (M.nxt (hs.getD i 0) c)) R) := hMi
            have HRi : Hid (wr.rowIs wo.heap.size 3 8 (fun j => if j < 8 then .int .i64 (f (M.nxt h1 j)) else .int .i64 0)) := hri
            have HLR : Hid (∀ i, i < k → R i < wo.heap.size) := hltR
            clear hMi hri hM hf hnx hbWi hbwi hh hhd hltR
            go_wp2_with fail
            go_region
            go_wp2
            go_roundw
            case rel =>
              have hrr : wr.drew.rowIs wo.heap.size 3 8 (fun j => .int .i64 (f (M.nxt (hs.getD k 0) j))) := by rw [HH1.out]; exact HRi.out.congr (fun j hj => by rw [if_pos hj])
              have hN := HMi.out.drew.next hrr ⟨by omega, by omega, by omega, by omega⟩ hlt (fun i hi => by have := HLR.out i hi; omega)
              rw [HH1.out] at hN
              exact ⟨k + 1, _, by omega, by go_num, hN⟩
            case measure => simp [intOf]; omega
      · have he : k = hs.length := by omega
        subst he
        obtain ⟨y0, y1, _, _⟩ := cell_two hMr.blk
        have hq : wr.heap[w.heap.size + 1]? = some (.cells #[.slice none 0 0, .slice none 0 0] 30 (0, 0)) := (hbW.block _ (by omega)).trans k4
        obtain ⟨q0, q1, p0, p1⟩ := cell_two hq
        have HM : Hid (MergeAt w.heap.size W wr gA gN bT hs.length hs.length (fun i => M.acc (hs.getD i 0)) (fun i c => f (M.nxt (hs.getD i 0) c)) R) := hMr
        clear hMr hM hf hnx hbW hh hhd
        go_wp2
        obtain ⟨r1, r2, r3⟩ := res_two (u := .slice (some ⟨gA, 0, none⟩) hs.length hs.length) (v := .slice (some ⟨gN, 0, none⟩) hs.length hs.length) hq
        refine bodyPost_ret (v := .agg #[.slice (some ⟨gA, 0, none⟩) hs.length hs.length, .slice (some ⟨gN, 0, none⟩) hs.length hs.length]) (by simp [results, Try.results92, go_sem, r1, r2]) rfl ?_
        have hm := HM.out
        refine ⟨⟨gA, 0, hs.length, gN, 0, hs.length, R, fun _ => 0, fun _ => 8⟩, rfl, ⟨fun i hi => ?_, fun i hi => ?_, fun i c hi hc => ?_⟩, ⟨by have := hm.loA; simp; omega, by have := hm.loN; simp; omega, fun i hi => by have := (hm.dR i hi).2.2.2; simp; omega⟩, ?_, ?_⟩
        · have h1 := ((hm.rA.setOther (a := ⟨w.heap.size + 1, 0, none⟩) (by have := hm.loA; simp; omega) (.slice (some ⟨gA, 0, none⟩) hs.length hs.length)).setOther (a := ⟨w.heap.size + 1, 1, none⟩) (by have := hm.loA; simp; omega) (.slice (some ⟨gN, 0, none⟩) hs.length hs.length)).cell hi
          rw [if_pos (show i < hs.length from hi)] at h1
          simpa [merged] using h1
        · have h1 := ((hm.rN.setOther (a := ⟨w.heap.size + 1, 0, none⟩) (by have := hm.loN; simp; omega) (.slice (some ⟨gA, 0, none⟩) hs.length hs.length)).setOther (a := ⟨w.heap.size + 1, 1, none⟩) (by have := hm.loN; simp; omega) (.slice (some ⟨gN, 0, none⟩) hs.length hs.length)).cell hi
          rw [if_pos (show i < hs.length from hi)] at h1
          simpa [merged] using h1
        · have hd := (hm.dR i hi).2.2.2
          have h1 := (((hm.rR i hi).setOther (a := ⟨w.heap.size + 1, 0, none⟩) (by simp; omega) (.slice (some ⟨gA, 0, none⟩) hs.length hs.length)).setOther (a := ⟨w.heap.size + 1, 1, none⟩) (by simp; omega) (.slice (some ⟨gN, 0, none⟩) hs.length hs.length)).cell hc
          simpa [merged] using h1
        · exact (hbw.setCell (p := ⟨w.heap.size + 1, 0, none⟩) (by simp <;> omega) _).setCell (p := ⟨w.heap.size + 1, 1, none⟩) (by simp <;> omega) _
        · refine ⟨rfl, rfl, rfl, rfl, fun i hi => ⟨rfl, rfl⟩, hm.inj, ?_, ?_, fun i hi => ?_⟩
          · exact shape_set (shape_set (shape_row hm.rA) _ _ _) _ _ _
          · exact shape_set (shape_set (shape_row hm.rN) _ _ _) _ _ _
          · exact shape_set (shape_set (shape_row (hm.rR i hi)) _ _ _) _ _ _
end Go.Proofs.Ytpngikmcjkjdaab
