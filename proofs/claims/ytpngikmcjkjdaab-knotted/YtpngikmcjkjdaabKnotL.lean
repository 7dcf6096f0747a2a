import Derived.Test.YtpngikmcjkjdaabKnotP
import Derived.Test.YtpngikmcjkjdaabBookX
namespace Go.Proofs.Ytpngikmcjkjdaab
open Go.RowKit
set_option linter.unusedVariables false
set_option linter.unusedSimpArgs false

/-- A store into a row of one's own. -/
theorem own_set {w : World} {base e g n cap i : Nat} {xs : List Value} (h : w.ownsRow base e 1 (.slice (some ⟨g, 0, none⟩) n cap) n xs) (v : Value) : (w.setCell ⟨g, i, none⟩ v).ownsRow base e 1 (.slice (some ⟨g, 0, none⟩) n cap) n (xs.set i v) := by
  refine ⟨by rw [List.length_set]; exact h.1, ?_⟩
  rcases h.2 with ⟨h1, _⟩ | ⟨g', cap', cur, h1, h2, h3, h4, h5, h6, h7⟩
  · cases h1
  · injection h1 with e1 e2 e3
    injection e1 with e1
    injection e1 with e1
    subst e1
    subst e3
    refine .inr ⟨g, cap, cur.setIfInBounds i v, rfl, h2, ?_, h4, h5, by simpa using h6, ?_⟩
    · simp [World.setCell, Array.getElem?_modify, h3]
    · rw [Array.toList_setIfInBounds, List.take_set, h7]

set_option maxRecDepth 20000 in
set_option maxHeartbeats 1000000 in
theorem kbegin_ok (a b : ByteArray) (w : World) (ha : a.size ≤ maxLen) (hb : b.size ≤ maxLen) :
    Calls Try.prog 26 #[.string a, .string b] w fun e w' => e = .returned (.string (begins a b)) ∧ ∃ m, w' = w.drewN m := by
  unfold maxLen at ha hb
  unfold begins
  obtain ⟨c, HC⟩ : ∃ c, Hid (comm (lsb a) (lsb b) = c) := ⟨_, rfl⟩
  rw [HC.out]
  have hle := (le_comm (lsb a) (lsb b) c).1 (by rw [HC.out]; exact Nat.le_refl _)
  rw [lsb_size, lsb_size] at hle
  obtain ⟨la, lb, _⟩ := hle
  go_enter Try.func26, Try.ntmps26
  go_wp2_with fail
  go_loopw [5] (fun v wr => ∃ i q : Nat, i ≤ c ∧ v = .int .i64 (i : Int) ∧ wr = w.drewN q) (fun v _ => c - (intOf v).toNat)
  case atStart => exact ⟨0, 0, by omega, rfl, rfl⟩
  case round =>
    obtain ⟨i, q, hi, rfl, rfl⟩ := hrel
    have hst := comm_step (lsb a) (lsb b) i (by rw [HC.out]; exact hi)
    rw [HC.out, lsb_size, lsb_size] at hst
    by_cases h1 : i < a.size
    · by_cases h2 : i < b.size
      · rw [lsb_at a i h1, lsb_at b i h2] at hst
        by_cases h3 : a[i] = b[i]
        · have h4 : i < c := by
            apply Nat.lt_of_le_of_ne hi
            intro e
            exact hst.1 e.symm ⟨h1, h2, h3⟩
          have h5 : ((a[i].toNat : Int) == (b[i].toNat : Int)) = true := by simp [h3]
          have q1 : (i : Int) < (a.size : Int) := by omega
          have q2 : (i : Int) < (b.size : Int) := by omega
          clear hst h3
          go_wp2_with fail
          go_quiet (fail)
          go_wp2_with fail
          go_roundw
          case rel => exact ⟨i + 1, _, by omega, by go_num, rfl⟩
          case measure => simp [intOf]; omega
        · have h5 : ((a[i].toNat : Int) == (b[i].toNat : Int)) = false := by
            simp only [beq_eq_false_iff_ne, ne_eq]
            intro e
            exact h3 (UInt8.toNat_inj.1 (by omega))
          have e : c = i := hst.2 (fun h => h3 h.2.2)
          have q1 : (i : Int) < (a.size : Int) := by omega
          have q2 : (i : Int) < (b.size : Int) := by omega
          have HQ3 : Hid ((i : Int) ≤ (a.size : Int)) := by unfold Hid; omega
          clear hst h3
          subst e
          go_wp2_with fail
          go_quiet (fail)
          have q3 := HQ3.out
          go_wp2_with fail
          go_ret
          exact ⟨rfl, _, by first | rfl | rw [World.drewN_drewN]⟩
      · have e : c = i := hst.2 (fun h => h2 h.2.1)
        have q1 : (i : Int) < (a.size : Int) := by omega
        have q2 : ¬ (i : Int) < (b.size : Int) := by omega
        have HQ3 : Hid ((i : Int) ≤ (a.size : Int)) := by unfold Hid; omega
        clear hst
        subst e
        go_wp2_with fail
        go_quiet (fail)
        have q3 := HQ3.out
        go_wp2_with fail
        go_ret
        exact ⟨rfl, _, by first | rfl | rw [World.drewN_drewN]⟩
    · have e : c = i := hst.2 (fun h => h1 h.1)
      have q1 : ¬ (i : Int) < (a.size : Int) := by omega
      have HQ3 : Hid ((i : Int) ≤ (a.size : Int)) := by unfold Hid; omega
      clear hst
      subst e
      go_wp2_with fail
      go_quiet (fail)
      have q3 := HQ3.out
      go_wp2_with fail
      go_ret
      exact ⟨rfl, _, by first | rfl | rw [World.drewN_drewN]⟩

set_option maxRecDepth 20000 in
set_option maxHeartbeats 1000000 in
theorem ksame_ok (w : World) (va vb : Value) (ba bb : Nat) (l : List ByteArray) (hl : l.length ≤ 100000) (ha : w.ownsRow ba 9 1 va l.length (strs l)) (hb : w.ownsRow bb 9 1 vb l.length (strs l)) :
    Calls Try.prog 30 #[va, vb] w fun e w' => e = .returned (.bool true) ∧ Below w.heap.size w w' := by
  obtain ⟨aa, ca, rfl, sa⟩ := ownsRow_shape ha
  obtain ⟨ab, cb, rfl, sb⟩ := ownsRow_shape hb
  obtain ⟨n, HN⟩ : ∃ n, Hid (l.length = n) := ⟨_, rfl⟩
  have hc : ∀ i, i < n → ∃ g1 g2 x, aa = some ⟨g1, 0, none⟩ ∧ ab = some ⟨g2, 0, none⟩ ∧ w.cell? ⟨g1, i, none⟩ = some (.string x) ∧ w.cell? ⟨g2, i, none⟩ = some (.string x) := by
    intro i hi
    rw [← HN.out] at hi
    obtain ⟨g1, e1, c1⟩ := sa (by omega)
    obtain ⟨g2, e2, c2⟩ := sb (by omega)
    have hx : (strs l)[i]? = some (.string l[i]) := by simp [strs, hi]
    exact ⟨g1, g2, l[i], e1, e2, (c1 i (by omega)).trans hx, (c2 i (by omega)).trans hx⟩
  rw [HN.out] at hl ⊢
  clear ha hb sa sb
  go_enter Try.func30, Try.ntmps30
  go_wp2_with fail
  go_loopw [5] (fun i' wr => ∃ i : Nat, i ≤ n ∧ i' = .int .i64 (i : Int) ∧ Below w.heap.size w wr) (fun i' _ => n - (intOf i').toNat)
  case atStart => exact ⟨0, by omega, rfl, Below.refl _ _⟩
  case round =>
    obtain ⟨i, hi, rfl, hb⟩ := hrel
    have HB : Hid (Below w.heap.size w wr) := hb
    by_cases hlt : i < n
    · obtain ⟨g1, g2, x, rfl, rfl, c1, c2⟩ := hc i hlt
      have d1 := ((bcell hb).1 g1 i (lt_of_cell c1)).trans c1
      have d2 := ((bcell hb).1 g2 i (lt_of_cell c2)).trans c2
      have q1 : (i : Int) < (n : Int) := by omega
      have q2 : (x.toList == x.toList) = true := by rw [beq_str]; simp
      clear hb c1 c2 hc
      go_wp2_with fail
      go_quiet (fail)
      go_wp2_with fail
      go_roundw
      case rel => exact ⟨i + 1, by omega, by go_num, below_drewN HB.out nq⟩
      case measure => simp [intOf]; omega
    · have q1 : ¬ (i : Int) < (n : Int) := by omega
      have e : i = n := by omega
      subst e
      clear hb hc
      go_wp2_with fail
      go_ret
      exact ⟨rfl, HB.out⟩

/-! Sorted. -/
theorem not_gt {a b : ByteArray} : (!(Op.bytesLess a.toList b.toList || a.toList == b.toList)) = less b a := by
  rw [beq_str]
  show (!(less a b || decide (a = b))) = less b a
  by_cases e : a = b
  · subst e; simp [less_irrefl]
  · cases h : less a b with
    | true => simp [less_asymm h]
    | false => simp [e, less_tri h e]
def LeS (L : List ByteArray) : Prop := L.Pairwise (fun a b => less b a = false)
theorem insAt_srt {O : List ByteArray} (h : LeS O) {x : ByteArray} {k : Nat} (hk : k ≤ O.length) (h1 : ∀ j (hj : j < O.length), k ≤ j → less x O[j] = true) (h2 : ∀ (h0 : 0 < k), less x (O[k - 1]'(by omega)) = false) : LeS (O.take k ++ x :: O.drop k) := by
  unfold LeS at h ⊢
  have hsp : (O.take k ++ O.drop k).Pairwise (fun a b => less b a = false) := by rw [List.take_append_drop]; exact h
  rw [List.pairwise_append] at hsp ⊢
  obtain ⟨p1, p2, p3⟩ := hsp
  refine ⟨p1, ?_, ?_⟩
  · rw [List.pairwise_cons]
    refine ⟨fun b hb => ?_, p2⟩
    obtain ⟨j, hj, rfl⟩ := List.getElem_of_mem hb
    rw [List.length_drop] at hj
    rw [List.getElem_drop]
    exact less_asymm (h1 _ (by omega) (by omega))
  · intro a ha b hb
    rw [List.mem_cons] at hb
    rcases hb with rfl | hb
    · obtain ⟨j, hj, rfl⟩ := List.getElem_of_mem ha
      rw [List.length_take] at hj
      rw [List.getElem_take]
      have hk0 : 0 < k := by omega
      have hl := h2 hk0
      by_cases e : j = k - 1
      · subst e; exact hl
      · have := List.pairwise_iff_getElem.1 h j (k - 1) (by omega) (by omega) (by omega)
        rw [Bool.eq_false_iff]
        intro hc
        by_cases e2 : O[j] = O[k - 1]
        · rw [e2, hl] at hc; cases hc
        · have h3 := less_tri (a := O[k - 1]'(by omega)) (b := O[j]'(by omega)) this (fun e' => e2 e'.symm)
          have := less_trans hc h3
          rw [hl] at this; cases this
    · exact p3 a ha b hb
theorem mem_insAt {O : List ByteArray} {x s : ByteArray} {k : Nat} : s ∈ O.take k ++ x :: O.drop k ↔ s ∈ O ∨ s = x := by
  rw [List.mem_append, List.mem_cons]
  conv => rhs; rw [← List.take_append_drop k O, List.mem_append]
  constructor
  · rintro (h | h | h)
    · exact .inl (.inl h)
    · exact .inr h
    · exact .inl (.inr h)
  · rintro ((h | h) | h)
    · exact .inl h
    · exact .inr (.inr h)
    · exact .inr (.inl h)
/-- The row while a text sinks to its place. -/
def sinkL (O : List ByteArray) (x : ByteArray) (k : Nat) : List ByteArray := (O ++ [x]).take (k + 1) ++ O.drop k
theorem sink_len (O : List ByteArray) (x : ByteArray) {k : Nat} (hk : k ≤ O.length) : (sinkL O x k).length = O.length + 1 := by
  simp [sinkL]; omega
theorem sink_top (O : List ByteArray) (x : ByteArray) : sinkL O x O.length = O ++ [x] := by
  rw [sinkL, List.drop_length, List.append_nil, List.take_of_length_le (by simp)]
theorem sink_at (O : List ByteArray) (x : ByteArray) {k j : Nat} (hk : k ≤ O.length) (hj : j < k) : (sinkL O x k)[j]? = O[j]? := by
  rw [sinkL, List.getElem?_append_left (by simp; omega), List.getElem?_take, if_pos (by omega), List.getElem?_append_left (by omega)]
theorem sink_step (O : List ByteArray) (x : ByteArray) {k : Nat} (hk : k + 1 ≤ O.length) : (sinkL O x (k + 1)).set (k + 1) (O[k]'(by omega)) = sinkL O x k := by
  apply List.ext_getElem?
  intro j
  rw [List.getElem?_set]
  have hl := sink_len O x hk
  have e1 : ∀ m, m ≤ O.length → ∀ i, (sinkL O x m)[i]? = if i < m + 1 then (O ++ [x])[i]? else O[i - 1]? := by
    intro m hm i
    rw [sinkL]
    have hlt : ((O ++ [x]).take (m + 1)).length = m + 1 := by simp; omega
    by_cases h : i < m + 1
    · rw [if_pos h, List.getElem?_append_left (by omega), List.getElem?_take, if_pos h]
    · rw [if_neg h, List.getElem?_append_right (by omega), hlt, List.getElem?_drop]
      congr 1; omega
  rw [e1 (k + 1) (by omega), e1 k (by omega)]
  by_cases h : k + 1 = j
  · subst h
    rw [if_pos rfl, if_pos (by omega), if_neg (by omega), Nat.add_sub_cancel, List.getElem?_eq_getElem (by omega)]
  · rw [if_neg h]
    by_cases h2 : j < k + 1
    · rw [if_pos (by omega), if_pos h2]
    · rw [if_neg (by omega), if_neg h2]
theorem sink_end (O : List ByteArray) (x : ByteArray) {k : Nat} (hk : k ≤ O.length) : (sinkL O x k).set k x = O.take k ++ x :: O.drop k := by
  apply List.ext_getElem?
  intro j
  rw [List.getElem?_set]
  have hl := sink_len O x hk
  have hlt : ((O ++ [x]).take (k + 1)).length = k + 1 := by simp; omega
  have htk : (O.take k).length = k := by simp; omega
  by_cases h : k = j
  · subst h
    rw [if_pos rfl, if_pos (by omega), List.getElem?_append_right (by omega), htk, Nat.sub_self]; rfl
  · rw [if_neg h, sinkL]
    by_cases h2 : j < k
    · rw [List.getElem?_append_left (by omega), List.getElem?_append_left (by omega), List.getElem?_take, List.getElem?_take, if_pos (by omega), if_pos h2, List.getElem?_append_left (by omega)]
    · rw [List.getElem?_append_right (by omega), List.getElem?_append_right (by omega), hlt, htk, List.getElem?_cons, if_neg (by omega), List.getElem?_drop, List.getElem?_drop]
      congr 1 <;> omega

theorem strs_set (l : List ByteArray) (i : Nat) (x : ByteArray) : (strs l).set i (.string x) = strs (l.set i x) := by simp [strs, List.map_set]
theorem strs_get {l : List ByteArray} {i : Nat} (h : i < l.length) : (strs l)[i]? = some (.string l[i]) := by simp [strs, h]
theorem strs_get? {l : List ByteArray} {i : Nat} {x : ByteArray} (h : l[i]? = some x) : (strs l)[i]? = some (.string x) := by simp [strs, h]

set_option maxRecDepth 20000 in
set_option maxHeartbeats 4000000 in
theorem sorted_ok (w : World) (v : Value) (b0 : Nat) (l : List ByteArray) (hl : l.length ≤ 100000) (hv : w.ownsRow b0 9 1 v l.length (strs l)) :
    Calls Try.prog 27 #[v] w fun e w' => Below w.heap.size w w' ∧ ∃ u L, e = .returned u ∧ w'.ownsRow w.heap.size 9 1 u L.length (strs L) ∧ L.length = l.length ∧ LeS L ∧ ∀ s, s ∈ L ↔ s ∈ l := by
  obtain ⟨i0, hi0, hz0, hz01, hz02⟩ := info_parts Try.infoS
  obtain ⟨aa, ca, rfl, sa⟩ := ownsRow_shape hv
  have hc : ∀ i (hi : i < l.length), ∃ g, aa = some ⟨g, 0, none⟩ ∧ w.cell? ⟨g, i, none⟩ = some (.string l[i]) := by
    intro i hi
    obtain ⟨g1, e1, c1⟩ := sa (by omega)
    exact ⟨g1, e1, (c1 i (by omega)).trans (strs_get hi)⟩
  clear sa hv
  go_enter Try.func27, Try.ntmps27
  go_wp2_with fail
  go_loopw [3, 4] (fun o' i' wr => ∃ (i : Nat) (O : List ByteArray), i ≤ l.length ∧ i' = .int .i64 (i : Int) ∧ Below w.heap.size w wr ∧ wr.ownsRow w.heap.size 9 1 o' i (strs O) ∧ O.length = i ∧ LeS O ∧ ∀ s, s ∈ O ↔ s ∈ l.take i) (fun _ i' _ => l.length - (intOf i').toNat)
  case atStart => exact ⟨0, [], by omega, rfl, Below.refl _ _, World.ownsRow_nil _ _ _ _, rfl, List.Pairwise.nil, fun s => by simp⟩
  case round =>
    obtain ⟨i, O, hi, rfl, hb, hown, hol, hls, hmem⟩ := hrel
    have hbs := hb.size
    have HB : Hid (Below w.heap.size w wr) := hb
    have HLS : Hid (LeS O) := hls
    have HMEM : Hid (∀ s, s ∈ O ↔ s ∈ l.take i) := hmem
    have HOL : Hid (O.length = i) := hol
    clear hls hmem
    by_cases hlt : i < l.length
    · obtain ⟨g, rfl, c0⟩ := hc i hlt
      obtain ⟨x, HX⟩ : ∃ x, Hid (l[i] = x) := ⟨l[i], by unfold Hid; rfl⟩
      rw [HX.out] at c0
      have C0 : Hid (w.cell? ⟨g, i, none⟩ = some (.string x)) := c0
      have c1 := ((bcell hb).1 g i (lt_of_cell c0)).trans c0
      have q1 : (i : Int) < (l.length : Int) := by omega
      obtain ⟨oa, oc, ho3, _⟩ := ownsRow_shape hown
      subst ho3
      have hna := hown.alloc (.cells #[.string x] 9)
      have HOW : Hid (∀ y, (Value.slice oa i oc).ownBlock = some y → w.heap.size ≤ y) := fun y e => (hown.lt y e).1
      clear hown hb c0 hol
      go_wp2_with (at_builtin; refine wpList_append_fresh _ rfl _ _ 39 rfl w.heap.size 9 i0 (.string ByteArray.empty) 1 16 Try.underlying39 hi0 hz0 hz01 hz02 rfl (by decide) _ i (strs O) rfl hna ⟨wr.heap.size, 0, none⟩ 1 1 [.string x] rfl rfl (cell_one_new _ _ _) (by intro u hu; simp at hu; subst hu; rfl) (by decide) (by unfold maxLen; omega) (by omega) (by simp; omega) ?_; intro g' cap' w3 hown3 hgr hfr; have HO3 : Hid (w3.ownsRow w.heap.size 9 1 (.slice (some ⟨g', 0, none⟩) (i + 1) cap') (i + 1) (strs O ++ [.string x])) := hown3; have HB3 : Hid (Below w.heap.size w w3) := (HB.out.alloc (by omega) _).grown hgr (by simp; omega) (fun y e => HOW.out y e); clear hown3 hgr hfr hna)
      go_loopw [5] (fun k' wi => ∃ k : Nat, k ≤ i ∧ k' = .int .i64 (k : Int) ∧ Below w.heap.size w wi ∧ wi.ownsRow w.heap.size 9 1 (.slice (some ⟨g', 0, none⟩) (i + 1) cap') (i + 1) (strs (sinkL O x k)) ∧ ∀ j (hj : j < O.length), k ≤ j → less x O[j] = true) (fun k' _ => (intOf k').toNat)
      case atStart =>
        refine ⟨i, Nat.le_refl _, rfl, HB3.out, ?_, fun j hj hk => by have := HOL.out; omega⟩
        rw [← HOL.out, sink_top, ← strs_snoc, HOL.out]
        exact HO3.out
      case round =>
        obtain ⟨k, hk, rfl, hbi, hoi, hgt⟩ := hrel
        rename World => wi
        have c1i := ((bcell hbi).1 g i (lt_of_cell C0.out)).trans C0.out
        have HBI : Hid (Below w.heap.size w wi) := hbi
        have HOI : Hid (wi.ownsRow w.heap.size 9 1 (.slice (some ⟨g', 0, none⟩) (i + 1) cap') (i + 1) (strs (sinkL O x k))) := hoi
        have HGT : Hid (∀ j (hj : j < O.length), k ≤ j → less x O[j] = true) := hgt
        have hg' := hoi.lt g' rfl
        have hfz : ∀ j, wi.frozen? ⟨g', j, none⟩ = false := fun j => by
          rcases hoi.2 with ⟨e, _⟩ | ⟨g2, cap2, cur, e, _, h3, _⟩
          · cases e
          · injection e with e1 e2 e3
            injection e1 with e1
            injection e1 with e1
            subst e1
            simp [World.frozen?, h3]
        have hcell : ∀ j y, j < i + 1 → (sinkL O x k)[j]? = some y → wi.cell? ⟨g', j, none⟩ = some (.string y) := fun j y hj hy => (hoi.cellAt j (by omega)).trans (strs_get? hy)
        clear hbi hoi hgt
        cases k with
        | zero =>
          have hz0' : ¬ (0 : Int) < ((0 : Nat) : Int) := by simp
          obtain ⟨y, hy⟩ : ∃ y, (sinkL O x 0)[0]? = some y := ⟨_, List.getElem?_eq_getElem (by rw [sink_len O x (by omega)]; omega)⟩
          have d0 := hcell 0 y (by omega) hy
          have f0 := hfz 0
          have HFIN : Hid (∀ wj : World, wj.ownsRow w.heap.size 9 1 (.slice (some ⟨g', 0, none⟩) (i + 1) cap') (i + 1) (strs (sinkL O x 0)) → (wj.setCell ⟨g', 0, none⟩ (.string x)).ownsRow w.heap.size 9 1 (.slice (some ⟨g', 0, none⟩) (i + 1) cap') (i + 1) (strs (O.take 0 ++ x :: O.drop 0))) := fun wj hj => by
            have := own_set (i := 0) hj (.string x)
            rw [strs_set, sink_end O x (by omega)] at this
            exact this
          clear hfz hcell
          go_wp2_with fail
          go_quiet (fail)
          go_wp2_with fail
          go_roundw
          case rel =>
            have hO := HOL.out
            have ho := HFIN.out (wi.drewN nq) (ownsRow_below HOI.out (below_drewN (Below.refl _ _) nq))
            refine ⟨i + 1, O.take 0 ++ x :: O.drop 0, by omega, by go_num, (below_drewN HBI.out nq).setCell (p := ⟨g', 0, none⟩) hg'.1 _, ho, by simp; omega, insAt_srt HLS.out (by omega) HGT.out (fun h0 => by omega), fun s => ?_⟩
            rw [mem_insAt, HMEM.out s, List.take_add_one, List.mem_append, List.getElem?_eq_getElem hlt, HX.out]
            simp
          case measure => simp [intOf]; omega
        | succ k =>
          have hk1 : (sinkL O x (k + 1))[k]? = some (O[k]'(by have := HOL.out; omega)) := by rw [sink_at O x (by have := HOL.out; omega) (by omega), List.getElem?_eq_getElem]
          obtain ⟨ok, HOK⟩ : ∃ y, Hid (O[k]'(by have := HOL.out; omega) = y) := ⟨_, by unfold Hid; rfl⟩
          rw [HOK.out] at hk1
          have d0 := hcell k ok (by omega) hk1
          obtain ⟨y1, hy1⟩ : ∃ y, (sinkL O x (k + 1))[k + 1]? = some y := ⟨_, List.getElem?_eq_getElem (by rw [sink_len O x (by have := HOL.out; omega)]; have := HOL.out; omega)⟩
          have d1 := hcell (k + 1) y1 (by omega) hy1
          have f1 := hfz (k + 1)
          have q2 : (0 : Int) < (k : Int) + 1 := by omega
          have hwk : IntKind.i64.wrap (k : Int) = (k : Int) := by rw [IntKind.wrap_i64]; omega
          rw [show ((k + 1 : Nat) : Int) = (k : Int) + 1 by simp]
          have HFIN : Hid (∀ wj : World, wj.ownsRow w.heap.size 9 1 (.slice (some ⟨g', 0, none⟩) (i + 1) cap') (i + 1) (strs (sinkL O x (k + 1))) → (wj.setCell ⟨g', k + 1, none⟩ (.string x)).ownsRow w.heap.size 9 1 (.slice (some ⟨g', 0, none⟩) (i + 1) cap') (i + 1) (strs (O.take (k + 1) ++ x :: O.drop (k + 1)))) := fun wj hj => by
            have := own_set (i := k + 1) hj (.string x)
            rw [strs_set, sink_end O x (by have := HOL.out; omega)] at this
            exact this
          have HSTEP : Hid (∀ wj : World, wj.ownsRow w.heap.size 9 1 (.slice (some ⟨g', 0, none⟩) (i + 1) cap') (i + 1) (strs (sinkL O x (k + 1))) → (wj.setCell ⟨g', k + 1, none⟩ (.string ok)).ownsRow w.heap.size 9 1 (.slice (some ⟨g', 0, none⟩) (i + 1) cap') (i + 1) (strs (sinkL O x k))) := fun wj hj => by
            have := own_set (i := k + 1) hj (.string ok)
            rw [strs_set, ← HOK.out, sink_step O x (by have := HOL.out; omega)] at this
            rw [← HOK.out]
            exact this
          clear hfz hcell hk1 hy1
          cases hlx : less x ok with
          | true =>
            have q3 : (Op.bytesLess ok.toList x.toList || ok.toList == x.toList) = false := by
              cases hX : (Op.bytesLess ok.toList x.toList || ok.toList == x.toList) with
              | false => rfl
              | true => have := not_gt (a := ok) (b := x); rw [hX, hlx] at this; cases this
            go_wp2_with fail
            go_quiet (fail)
            go_wp2_with fail
            go_roundw
            case rel =>
              have hO := HOL.out
              have ho := HSTEP.out (wi.drewN nq) (ownsRow_below HOI.out (below_drewN (Below.refl _ _) nq))
              refine ⟨k, by omega, by go_num, (below_drewN HBI.out nq).setCell (p := ⟨g', k + 1, none⟩) hg'.1 _, ho, fun j hj hkj => ?_⟩
              by_cases e : j = k
              · subst e; rw [HOK.out]; exact hlx
              · exact HGT.out j hj (by omega)
            case measure => simp [intOf]
          | false =>
            have q3 : (Op.bytesLess ok.toList x.toList || ok.toList == x.toList) = true := by
              cases hX : (Op.bytesLess ok.toList x.toList || ok.toList == x.toList) with
              | true => rfl
              | false => have := not_gt (a := ok) (b := x); rw [hX, hlx] at this; cases this
            go_wp2_with fail
            go_quiet (fail)
            go_wp2_with fail
            go_roundw
            case rel =>
              have hO := HOL.out
              have ho := HFIN.out (wi.drewN nq) (ownsRow_below HOI.out (below_drewN (Below.refl _ _) nq))
              refine ⟨i + 1, O.take (k + 1) ++ x :: O.drop (k + 1), by omega, by go_num, (below_drewN HBI.out nq).setCell (p := ⟨g', (k + 1), none⟩) hg'.1 _, ho, by simp; omega, insAt_srt HLS.out (by omega) HGT.out (fun h0 => by rw [show O[k + 1 - 1] = ok from HOK.out]; exact hlx), fun s => ?_⟩
              rw [mem_insAt, HMEM.out s, List.take_add_one, List.mem_append, List.getElem?_eq_getElem hlt, HX.out]
              simp
            case measure => simp [intOf]; omega
    · have q1 : ¬ (i : Int) < (l.length : Int) := by omega
      have e : i = l.length := by omega
      have HO : Hid (wr.ownsRow w.heap.size 9 1 u3 i (strs O)) := hown
      clear hb hown hc
      go_wp2_with fail
      go_ret
      refine ⟨HB.out, _, rfl, O, by rw [HOL.out]; exact HO.out, by rw [HOL.out]; exact e, HLS.out, fun s => ?_⟩
      rw [HMEM.out s, e, List.take_length]
end Go.Proofs.Ytpngikmcjkjdaab
