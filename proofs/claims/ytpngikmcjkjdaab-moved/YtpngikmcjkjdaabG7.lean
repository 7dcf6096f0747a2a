import Derived.Deep.AppendLies
import Derived.Deep.RegionHeld3
import Derived.Test.YtpngikmcjkjdaabG1
import Derived.Test.YtpngikmcjkjdaabG4
import Derived.Test.YtpngikmcjkjdaabG5
import Derived.Test.YtpngikmcjkjdaabG6
set_option linter.unusedVariables false
set_option linter.unusedSimpArgs false
namespace Go.Proofs.Ytpngikmcjkjdaab
open Go.RowKit
set_option linter.unusedVariables false
set_option linter.unusedSimpArgs false
theorem own_set {w : World} {base e g n cap i : Nat} {xs : List Value} (h : w.ownsRow base e 1 (.slice (some ⟨g, 0, none⟩) n cap) n xs) (v : Value) : (w.setCell ⟨g, i, none⟩ v).ownsRow base e 1 (.slice (some ⟨g, 0, none⟩) n cap) n (xs.set i v) := by
  refine ⟨by rw [List.length_set]; exact h.1, ?_⟩
  rcases h.2 with ⟨h1, _⟩ | ⟨g', cap', cur, h1, h2, h3, h4, h5, h6, h7⟩
  · cases h1
  · injection h1 with e1 e2 e3
    injection e1 with e1
    injection e1 with e1
    subst e1
    subst e3
    refine .inr ⟨g, cap, cur.setIfInBounds i v, rfl, h2, ?_, h4, h5, by simpa using h6, ?_⟩
    · simp [World.setCell, Array.getElem?_modify, h3]
    · rw [Array.toList_setIfInBounds, List.take_set, h7]
set_option maxRecDepth 20000 in
set_option maxHeartbeats 1000000 in
theorem ksame_ok (w : World) (va vb : Value) (ba bb : Nat) (l : List ByteArray) (hl : l.length ≤ 100000) (ha : w.ownsRow ba 9 1 va l.length (strs l)) (hb : w.ownsRow bb 9 1 vb l.length (strs l)) :
    Calls Try.prog 30 #[va, vb] w fun e w' => e = .returned (.bool true) ∧ Below w.heap.size w w' := by
  obtain ⟨aa, ca, rfl, sa⟩ := ownsRow_shape ha
  obtain ⟨ab, cb, rfl, sb⟩ := ownsRow_shape hb
  obtain ⟨n, HN⟩ : ∃ n, Hid (l.length = n) := ⟨_, rfl⟩
  have hc : ∀ i, i < n → ∃ g1 g2 x, aa = some ⟨g1, 0, none⟩ ∧ ab = some ⟨g2, 0, none⟩ ∧ w.cell? ⟨g1, i, none⟩ = some (.string x) ∧ w.cell? ⟨g2, i, none⟩ = some (.string x) := by
    intro i hi
    rw [← HN.out] at hi
    obtain ⟨g1, e1, c1⟩ := sa (by omega)
    obtain ⟨g2, e2, c2⟩ := sb (by omega)
    have hx : (strs l)[i]? = some (.string l[i]) := by simp [strs, hi]
    exact ⟨g1, g2, l[i], e1, e2, (c1 i (by omega)).trans hx, (c2 i (by omega)).trans hx⟩
  rw [HN.out] at hl ⊢
  clear ha hb sa sb
  go_enter Try.func30, Try.ntmps30
  go_wp2_with fail
  go_loopw [5] (fun i' wr => ∃ i : Nat, i ≤ n ∧ i' = .int .i64 (i : Int) ∧ Below w.heap.size w wr) (fun i' _ => n - (intOf i').toNat)
  case atStart => exact ⟨0, by omega, rfl, Below.refl _ _⟩
  case round =>
    obtain ⟨i, hi, rfl, hb⟩ := hrel
    have HB : Hid (Below w.heap.size w wr) := hb
    by_cases hlt : i < n
    · obtain ⟨g1, g2, x, rfl, rfl, c1, c2⟩ := hc i hlt
      have d1 := ((bcell hb).1 g1 i (lt_of_cell c1)).trans c1
      have d2 := ((bcell hb).1 g2 i (lt_of_cell c2)).trans c2
      have q1 : (i : Int) < (n : Int) := by omega
      have q2 : (x.toList == x.toList) = true := by rw [beq_str]; simp
      clear hb c1 c2 hc
      go_wp2_with fail
      go_quiet (fail)
      go_wp2_with fail
      go_roundw
      case rel => exact ⟨i + 1, by omega, by go_num, below_drewN HB.out nq⟩
      case measure => simp [intOf]; omega
    · have q1 : ¬ (i : Int) < (n : Int) := by omega
      have e : i = n := by omega
      subst e
      clear hb hc
      go_wp2_with fail
      go_ret
      exact ⟨rfl, HB.out⟩
theorem not_gt {a b : ByteArray} : (!(Op.bytesLess a.toList b.toList || a.toList == b.toList)) = less b a := by
  rw [beq_str]
  show (!(less a b || decide (a = b))) = less b a
  by_cases e : a = b
  · subst e; simp [less_irrefl]
  · cases h : less a b with
    | true => simp [less_asymm h]
    | false => simp [e, less_tri h e]
def LeS (L : List ByteArray) : Prop := L.Pairwise (fun a b => less b a = false)
theorem insAt_srt {O : List ByteArray} (h : LeS O) {x : ByteArray} {k : Nat} (hk : k ≤ O.length) (h1 : ∀ j (hj : j < O.length), k ≤ j → less x O[j] = true) (h2 : ∀ (h0 : 0 < k), less x (O[k - 1]'(by omega)) = false) : LeS (O.take k ++ x :: O.drop k) := by
  unfold LeS at h ⊢
  have hsp : (O.take k ++ O.drop k).Pairwise (fun a b => less b a = false) := by rw [List.take_append_drop]; exact h
  rw [List.pairwise_append] at hsp ⊢
  obtain ⟨p1, p2, p3⟩ := hsp
  refine ⟨p1, ?_, ?_⟩
  · rw [List.pairwise_cons]
    refine ⟨fun b hb => ?_, p2⟩
    obtain ⟨j, hj, rfl⟩ := List.getElem_of_mem hb
    rw [List.length_drop] at hj
    rw [List.getElem_drop]
    exact less_asymm (h1 _ (by omega) (by omega))
  · intro a ha b hb
    rw [List.mem_cons] at hb
    rcases hb with rfl | hb
    · obtain ⟨j, hj, rfl⟩ := List.getElem_of_mem ha
      rw [List.length_take] at hj
      rw [List.getElem_take]
      have hk0 : 0 < k := by omega
      have hl := h2 hk0
      by_cases e : j = k - 1
      · subst e; exact hl
      · have := List.pairwise_iff_getElem.1 h j (k - 1) (by omega) (by omega) (by omega)
        rw [Bool.eq_false_iff]
        intro hc
        by_cases e2 : O[j] = O[k - 1]
        · rw [e2, hl] at hc; cases hc
        · have h3 := less_tri (a := O[k - 1]'(by omega)) (b := O[j]'(by omega)) this (fun e' => e2 e'.symm)
          have := less_trans hc h3
          rw [hl] at this; cases this
    · exact p3 a ha b hb
theorem mem_insAt {O : List ByteArray} {x s : ByteArray} {k : Nat} : s ∈ O.take k ++ x :: O.drop k ↔ s ∈ O ∨ s = x := by
  rw [List.mem_append, List.mem_cons]
  conv => rhs; rw [← List.take_append_drop k O, List.mem_append]
  constructor
  · rintro (h | h | h)
    · exact .inl (.inl h)
    · exact .inr h
    · exact .inl (.inr h)
  · rintro ((h | h) | h)
    · exact .inl h
    · exact .inr (.inr h)
    · exact .inr (.inl h)
def sinkL (O : List ByteArray) (x : ByteArray) (k : Nat) : List ByteArray := (O ++ [x]).take (k + 1) ++ O.drop k
theorem sink_len (O : List ByteArray) (x : ByteArray) {k : Nat} (hk : k ≤ O.length) : (sinkL O x k).length = O.length + 1 := by
  simp [sinkL]; omega
theorem sink_top (O : List ByteArray) (x : ByteArray) : sinkL O x O.length = O ++ [x] := by
  rw [sinkL, List.drop_length, List.append_nil, List.take_of_length_le (by simp)]
theorem sink_at (O : List ByteArray) (x : ByteArray) {k j : Nat} (hk : k ≤ O.length) (hj : j < k) : (sinkL O x k)[j]? = O[j]? := by
  rw [sinkL, List.getElem?_append_left (by simp; omega), List.getElem?_take, if_pos (by omega), List.getElem?_append_left (by omega)]
theorem sink_step (O : List ByteArray) (x : ByteArray) {k : Nat} (hk : k + 1 ≤ O.length) : (sinkL O x (k + 1)).set (k + 1) (O[k]'(by omega)) = sinkL O x k := by
  apply List.ext_getElem?
  intro j
  rw [List.getElem?_set]
  have hl := sink_len O x hk
  have e1 : ∀ m, m ≤ O.length → ∀ i, (sinkL O x m)[i]? = if i < m + 1 then (O ++ [x])[i]? else O[i - 1]? := by
    intro m hm i
    rw [sinkL]
    have hlt : ((O ++ [x]).take (m + 1)).length = m + 1 := by simp; omega
    by_cases h : i < m + 1
    · rw [if_pos h, List.getElem?_append_left (by omega), List.getElem?_take, if_pos h]
    · rw [if_neg h, List.getElem?_append_right (by omega), hlt, List.getElem?_drop]
      congr 1; omega
  rw [e1 (k + 1) (by omega), e1 k (by omega)]
  by_cases h : k + 1 = j
  · subst h
    rw [if_pos rfl, if_pos (by omega), if_neg (by omega), Nat.add_sub_cancel, List.getElem?_eq_getElem (by omega)]
  · rw [if_neg h]
    by_cases h2 : j < k + 1
    · rw [if_pos (by omega), if_pos h2]
    · rw [if_neg (by omega), if_neg h2]
theorem sink_end (O : List ByteArray) (x : ByteArray) {k : Nat} (hk : k ≤ O.length) : (sinkL O x k).set k x = O.take k ++ x :: O.drop k := by
  apply List.ext_getElem?
  intro j
  rw [List.getElem?_set]
  have hl := sink_len O x hk
  have hlt : ((O ++ [x]).take (k + 1)).length = k + 1 := by simp; omega
  have htk : (O.take k).length = k := by simp; omega
  by_cases h : k = j
  · subst h
    rw [if_pos rfl, if_pos (by omega), List.getElem?_append_right (by omega), htk, Nat.sub_self]; rfl
  · rw [if_neg h, sinkL]
    by_cases h2 : j < k
    · rw [List.getElem?_append_left (by omega), List.getElem?_append_left (by omega), List.getElem?_take, List.getElem?_take, if_pos (by omega), if_pos h2, List.getElem?_append_left (by omega)]
    · rw [List.getElem?_append_right (by omega), List.getElem?_append_right (by omega), hlt, htk, List.getElem?_cons, if_neg (by omega), List.getElem?_drop, List.getElem?_drop]
      congr 1 <;> omega
theorem strs_set (l : List ByteArray) (i : Nat) (x : ByteArray) : (strs l).set i (.string x) = strs (l.set i x) := by simp [strs, List.map_set]
theorem strs_get {l : List ByteArray} {i : Nat} (h : i < l.length) : (strs l)[i]? = some (.string l[i]) := by simp [strs, h]
theorem strs_get? {l : List ByteArray} {i : Nat} {x : ByteArray} (h : l[i]? = some x) : (strs l)[i]? = some (.string x) := by simp [strs, h]
set_option maxRecDepth 20000 in
set_option maxHeartbeats 4000000 in
theorem sorted_ok (w : World) (v : Value) (b0 : Nat) (l : List ByteArray) (hl : l.length ≤ 100000) (hv : w.ownsRow b0 9 1 v l.length (strs l)) :
    Calls Try.prog 27 #[v] w fun e w' => Below w.heap.size w w' ∧ ∃ u L, e = .returned u ∧ w'.ownsRow w.heap.size 9 1 u L.length (strs L) ∧ L.length = l.length ∧ LeS L ∧ ∀ s, s ∈ L ↔ s ∈ l := by
  obtain ⟨i0, hi0, hz0, hz01, hz02⟩ := info_parts Try.infoStr
  obtain ⟨aa, ca, rfl, sa⟩ := ownsRow_shape hv
  have hc : ∀ i (hi : i < l.length), ∃ g, aa = some ⟨g, 0, none⟩ ∧ w.cell? ⟨g, i, none⟩ = some (.string l[i]) := by
    intro i hi
    obtain ⟨g1, e1, c1⟩ := sa (by omega)
    exact ⟨g1, e1, (c1 i (by omega)).trans (strs_get hi)⟩
  clear sa hv
  go_enter Try.func27, Try.ntmps27
  go_wp2_with fail
  go_loopw [3, 4] (fun o' i' wr => ∃ (i : Nat) (O : List ByteArray), i ≤ l.length ∧ i' = .int .i64 (i : Int) ∧ Below w.heap.size w wr ∧ wr.ownsRow w.heap.size 9 1 o' i (strs O) ∧ O.length = i ∧ LeS O ∧ ∀ s, s ∈ O ↔ s ∈ l.take i) (fun _ i' _ => l.length - (intOf i').toNat)
  case atStart => exact ⟨0, [], by omega, rfl, Below.refl _ _, World.ownsRow_nil _ _ _ _, rfl, List.Pairwise.nil, fun s => by simp⟩
  case round =>
    obtain ⟨i, O, hi, rfl, hb, hown, hol, hls, hmem⟩ := hrel
    have hbs := hb.size
    have HB : Hid (Below w.heap.size w wr) := hb
    have HLS : Hid (LeS O) := hls
    have HMEM : Hid (∀ s, s ∈ O ↔ s ∈ l.take i) := hmem
    have HOL : Hid (O.length = i) := hol
    clear hls hmem
    by_cases hlt : i < l.length
    · obtain ⟨g, rfl, c0⟩ := hc i hlt
      obtain ⟨x, HX⟩ : ∃ x, Hid (l[i] = x) := ⟨l[i], by unfold Hid; rfl⟩
      rw [HX.out] at c0
      have C0 : Hid (w.cell? ⟨g, i, none⟩ = some (.string x)) := c0
      have c1 := ((bcell hb).1 g i (lt_of_cell c0)).trans c0
      have q1 : (i : Int) < (l.length : Int) := by omega
      obtain ⟨oa, oc, ho3, _⟩ := ownsRow_shape hown
      subst ho3
      have hna := hown.alloc (.cells #[.string x] 9)
      have HOW : Hid (∀ y, (Value.slice oa i oc).ownBlock = some y → w.heap.size ≤ y) := fun y e => (hown.lt y e).1
      clear hown hb c0 hol
      go_wp2_with (at_builtin; refine wpList_append_fresh _ rfl _ _ 39 rfl w.heap.size 9 i0 (.string ByteArray.empty) 1 16 Try.underlying39 hi0 hz0 hz01 hz02 rfl (by decide) _ i (strs O) rfl hna ⟨wr.heap.size, 0, none⟩ 1 1 [.string x] rfl rfl (cell_one_new _ _ _) (by intro u hu; simp at hu; subst hu; rfl) (by decide) (by unfold maxLen; omega) (by omega) (by simp; omega) ?_; intro g' cap' w3 hown3 hgr hfr; have HO3 : Hid (w3.ownsRow w.heap.size 9 1 (.slice (some ⟨g', 0, none⟩) (i + 1) cap') (i + 1) (strs O ++ [.string x])) := hown3; have HB3 : Hid (Below w.heap.size w w3) := (HB.out.alloc (by omega) _).grown hgr (by simp; omega) (fun y e => HOW.out y e); clear hown3 hgr hfr hna)
      go_loopw [5] (fun k' wi => ∃ k : Nat, k ≤ i ∧ k' = .int .i64 (k : Int) ∧ Below w.heap.size w wi ∧ wi.ownsRow w.heap.size 9 1 (.slice (some ⟨g', 0, none⟩) (i + 1) cap') (i + 1) (strs (sinkL O x k)) ∧ ∀ j (hj : j < O.length), k ≤ j → less x O[j] = true) (fun k' _ => (intOf k').toNat)
      case atStart =>
        refine ⟨i, Nat.le_refl _, rfl, HB3.out, ?_, fun j hj hk => by have := HOL.out; omega⟩
        rw [← HOL.out, sink_top, ← strs_snoc, HOL.out]
        exact HO3.out
      case round =>
        obtain ⟨k, hk, rfl, hbi, hoi, hgt⟩ := hrel
        rename World => wi
        have c1i := ((bcell hbi).1 g i (lt_of_cell C0.out)).trans C0.out
        have HBI : Hid (Below w.heap.size w wi) := hbi
        have HOI : Hid (wi.ownsRow w.heap.size 9 1 (.slice (some ⟨g', 0, none⟩) (i + 1) cap') (i + 1) (strs (sinkL O x k))) := hoi
        have HGT : Hid (∀ j (hj : j < O.length), k ≤ j → less x O[j] = true) := hgt
        have hg' := hoi.lt g' rfl
        have hfz : ∀ j, wi.frozen? ⟨g', j, none⟩ = false := fun j => by
          rcases hoi.2 with ⟨e, _⟩ | ⟨g2, cap2, cur, e, _, h3, _⟩
          · cases e
          · injection e with e1 e2 e3
            injection e1 with e1
            injection e1 with e1
            subst e1
            simp [World.frozen?, h3]
        have hcell : ∀ j y, j < i + 1 → (sinkL O x k)[j]? = some y → wi.cell? ⟨g', j, none⟩ = some (.string y) := fun j y hj hy => (hoi.cellAt j (by omega)).trans (strs_get? hy)
        clear hbi hoi hgt
        cases k with
        | zero =>
          have hz0' : ¬ (0 : Int) < ((0 : Nat) : Int) := by simp
          obtain ⟨y, hy⟩ : ∃ y, (sinkL O x 0)[0]? = some y := ⟨_, List.getElem?_eq_getElem (by rw [sink_len O x (by omega)]; omega)⟩
          have d0 := hcell 0 y (by omega) hy
          have f0 := hfz 0
          have HFIN : Hid (∀ wj : World, wj.ownsRow w.heap.size 9 1 (.slice (some ⟨g', 0, none⟩) (i + 1) cap') (i + 1) (strs (sinkL O x 0)) → (wj.setCell ⟨g', 0, none⟩ (.string x)).ownsRow w.heap.size 9 1 (.slice (some ⟨g', 0, none⟩) (i + 1) cap') (i + 1) (strs (O.take 0 ++ x :: O.drop 0))) := fun wj hj => by
            have := own_set (i := 0) hj (.string x)
            rw [strs_set, sink_end O x (by omega)] at this
            exact this
          clear hfz hcell
          go_wp2_with fail
          go_quiet (fail)
          go_wp2_with fail
          go_roundw
          case rel =>
            have hO := HOL.out
            have ho := HFIN.out (wi.drewN nq) (ownsRow_below HOI.out (below_drewN (Below.refl _ _) nq))
            refine ⟨i + 1, O.take 0 ++ x :: O.drop 0, by omega, by go_num, (below_drewN HBI.out nq).setCell (p := ⟨g', 0, none⟩) hg'.1 _, ho, by simp; omega, insAt_srt HLS.out (by omega) HGT.out (fun h0 => by omega), fun s => ?_⟩
            rw [mem_insAt, HMEM.out s, List.take_add_one, List.mem_append, List.getElem?_eq_getElem hlt, HX.out]
            simp
          case measure => simp [intOf]; omega
        | succ k =>
          have hk1 : (sinkL O x (k + 1))[k]? = some (O[k]'(by have := HOL.out; omega)) := by rw [sink_at O x (by have := HOL.out; omega) (by omega), List.getElem?_eq_getElem]
          obtain ⟨ok, HOK⟩ : ∃ y, Hid (O[k]'(by have := HOL.out; omega) = y) := ⟨_, by unfold Hid; rfl⟩
          rw [HOK.out] at hk1
          have d0 := hcell k ok (by omega) hk1
          obtain ⟨y1, hy1⟩ : ∃ y, (sinkL O x (k + 1))[k + 1]? = some y := ⟨_, List.getElem?_eq_getElem (by rw [sink_len O x (by have := HOL.out; omega)]; have := HOL.out; omega)⟩
          have d1 := hcell (k + 1) y1 (by omega) hy1
          have f1 := hfz (k + 1)
          have q2 : (0 : Int) < (k : Int) + 1 := by omega
          have hwk : IntKind.i64.wrap (k : Int) = (k : Int) := by rw [IntKind.wrap_i64]; omega
          rw [show ((k + 1 : Nat) : Int) = (k : Int) + 1 by simp]
          have HFIN : Hid (∀ wj : World, wj.ownsRow w.heap.size 9 1 (.slice (some ⟨g', 0, none⟩) (i + 1) cap') (i + 1) (strs (sinkL O x (k + 1))) → (wj.setCell ⟨g', k + 1, none⟩ (.string x)).ownsRow w.heap.size 9 1 (.slice (some ⟨g', 0, none⟩) (i + 1) cap') (i + 1) (strs (O.take (k + 1) ++ x :: O.drop (k + 1)))) := fun wj hj => by
            have := own_set (i := k + 1) hj (.string x)
            rw [strs_set, sink_end O x (by have := HOL.out; omega)] at this
            exact this
          have HSTEP : Hid (∀ wj : World, wj.ownsRow w.heap.size 9 1 (.slice (some ⟨g', 0, none⟩) (i + 1) cap') (i + 1) (strs (sinkL O x (k + 1))) → (wj.setCell ⟨g', k + 1, none⟩ (.string ok)).ownsRow w.heap.size 9 1 (.slice (some ⟨g', 0, none⟩) (i + 1) cap') (i + 1) (strs (sinkL O x k))) := fun wj hj => by
            have := own_set (i := k + 1) hj (.string ok)
            rw [strs_set, ← HOK.out, sink_step O x (by have := HOL.out; omega)] at this
            rw [← HOK.out]
            exact this
          clear hfz hcell hk1 hy1
          cases hlx : less x ok with
          | true =>
            have q3 : (Op.bytesLess ok.toList x.toList || ok.toList == x.toList) = false := by
              cases hX : (Op.bytesLess ok.toList x.toList || ok.toList == x.toList) with
              | false => rfl
              | true => have := not_gt (a := ok) (b := x); rw [hX, hlx] at this; cases this
            go_wp2_with fail
            go_quiet (fail)
            go_wp2_with fail
            go_roundw
            case rel =>
              have hO := HOL.out
              have ho := HSTEP.out (wi.drewN nq) (ownsRow_below HOI.out (below_drewN (Below.refl _ _) nq))
              refine ⟨k, by omega, by go_num, (below_drewN HBI.out nq).setCell (p := ⟨g', k + 1, none⟩) hg'.1 _, ho, fun j hj hkj => ?_⟩
              by_cases e : j = k
              · subst e; rw [HOK.out]; exact hlx
              · exact HGT.out j hj (by omega)
            case measure => simp [intOf]
          | false =>
            have q3 : (Op.bytesLess ok.toList x.toList || ok.toList == x.toList) = true := by
              cases hX : (Op.bytesLess ok.toList x.toList || ok.toList == x.toList) with
              | true => rfl
              | false => have := not_gt (a := ok) (b := x); rw [hX, hlx] at this; cases this
            go_wp2_with fail
            go_quiet (fail)
            go_wp2_with fail
            go_roundw
            case rel =>
              have hO := HOL.out
              have ho := HFIN.out (wi.drewN nq) (ownsRow_below HOI.out (below_drewN (Below.refl _ _) nq))
              refine ⟨i + 1, O.take (k + 1) ++ x :: O.drop (k + 1), by omega, by go_num, (below_drewN HBI.out nq).setCell (p := ⟨g', (k + 1), none⟩) hg'.1 _, ho, by simp; omega, insAt_srt HLS.out (by omega) HGT.out (fun h0 => by rw [show O[k + 1 - 1] = ok from HOK.out]; exact hlx), fun s => ?_⟩
              rw [mem_insAt, HMEM.out s, List.take_add_one, List.mem_append, List.getElem?_eq_getElem hlt, HX.out]
              simp
            case measure => simp [intOf]; omega
    · have q1 : ¬ (i : Int) < (l.length : Int) := by omega
      have e : i = l.length := by omega
      have HO : Hid (wr.ownsRow w.heap.size 9 1 u3 i (strs O)) := hown
      clear hb hown hc
      go_wp2_with fail
      go_ret
      refine ⟨HB.out, _, rfl, O, by rw [HOL.out]; exact HO.out, by rw [HOL.out]; exact e, HLS.out, fun s => ?_⟩
      rw [HMEM.out s, e, List.take_length]
end Go.Proofs.Ytpngikmcjkjdaab

namespace Go.Proofs.Ytpngikmcjkjdaab
open Go.RowKit
set_option linter.unusedVariables false
set_option linter.unusedSimpArgs false
def pickN (c : Int) (n : Nat) : Nat := ((if c < 0 then -(c + 1) else c) % n).toNat
theorem pickN_lt (c : Int) (n : Nat) (h : 0 < n) : pickN c n < n := by
  unfold pickN
  have h1 := Int.emod_lt_of_pos (if c < 0 then -(c + 1) else c) (b := (n : Int)) (by omega)
  have h2 := Int.emod_nonneg (if c < 0 then -(c + 1) else c) (b := (n : Int)) (by omega)
  omega
theorem neg_tmod_emod (c n : Int) (h : c < 0) : -((c + 1).tmod n) = (-(c + 1)) % n := by
  rw [← Int.neg_tmod, Int.tmod_eq_emod_of_nonneg (by omega)]
set_option maxRecDepth 20000 in
set_option maxHeartbeats 400000 in
theorem pick_any (c : Int) (n : Int) (w : World) (h1 : 1 ≤ n) (h2 : n ≤ 1099511627776) (hc1 : -9223372036854775808 ≤ c) (hc2 : c ≤ 9223372036854775807) :
    Calls Try.prog 17 #[.int .i64 c, .int .i64 n] w fun e w' => e = .returned (.int .i64 (pickN c n.toNat)) ∧ w' = w := by
  have hn : ((n.toNat : Nat) : Int) = n := by omega
  by_cases h : c < 0
  · have he : ((pickN c n.toNat : Nat) : Int) = (-(c + 1)) % n := by
      unfold pickN; rw [if_pos h, hn]; have := Int.emod_nonneg (-(c+1)) (b := n) (by omega); omega
    rw [he]
    clear he hn
    go_enter Try.func17, Try.ntmps17
    go_wp2
    go_ret
    exact ⟨ret_int (neg_tmod_emod c n h), rfl⟩
  · have he : ((pickN c n.toNat : Nat) : Int) = c % n := by
      unfold pickN; rw [if_neg h, hn]; have := Int.emod_nonneg c (b := n) (by omega); omega
    rw [he]
    clear he hn
    go_enter Try.func17, Try.ntmps17
    go_wp2
    go_ret
    exact ⟨rfl, rfl⟩
structure CodeAt (w : World) (ao : Option Addr) (len : Nat) (z : Nat → Int) : Prop where
  ln : len ≤ 9223372036854775807
  cell : ∀ t, t < len → ∃ b o, ao = some ⟨b, o, none⟩ ∧ w.cell? ⟨b, o + t, none⟩ = some (.int .i64 (z t))
  rng : ∀ t, t < len → -9223372036854775808 ≤ z t ∧ z t ≤ 9223372036854775807
theorem CodeAt.below {w w' : World} {ao : Option Addr} {len : Nat} {z : Nat → Int} (h : CodeAt w ao len z) (hb : Below w.heap.size w w') : CodeAt w' ao len z :=
  ⟨h.ln, fun t ht => by obtain ⟨b, o, e, hc⟩ := h.cell t ht; exact ⟨b, o, e, by rw [(bcell hb).1 _ _ (lt_of_cell hc)]; exact hc⟩, h.rng⟩
end Go.Proofs.Ytpngikmcjkjdaab

namespace Go.Proofs.Ytpngikmcjkjdaab
open Go.RowKit
set_option linter.unusedVariables false
theorem conv_note (pv : Nat) (h : pv < 8) (u : World) : Sem.run Try.prog (convert 70 9 (.slice (some ⟨u.heap.size, 0, none⟩) 1 1)) (u.alloc (.cells #[.int .u8 (97 + (pv : Int))] 5)) =
    .ok (.string ⟨#[noteB pv]⟩) (u.alloc (.cells #[.int .u8 (97 + (pv : Int))] 5)) := by
  have h1 := run_convert_bytes_back (P := Try.prog) (u.alloc (.cells #[.int .u8 (97 + (pv : Int))] 5)) 70 9 5 ⟨u.heap.size, 0, none⟩ 1 [noteB pv] Try.underlying70 Try.underlying5 Try.underlying9 (by
    intro j hj
    have : j = 0 := by simp at hj; omega
    subst this
    have := cell_one_new u (.int .u8 (97 + (pv : Int))) 5 0 _ rfl
    rw [this]
    simp only [List.getElem_cons_zero, toNat_note pv h]
    rfl)
  exact h1
end Go.Proofs.Ytpngikmcjkjdaab

namespace Go.Proofs.Ytpngikmcjkjdaab
open Go.RowKit
set_option linter.unusedVariables false
set_option linter.unusedSimpArgs false
structure SameT (L : List ByteArray) (t : Nat → ByteArray) (n : Nat) : Prop where
  srt : SrtB t n
  len : L.length = n
  mem : ∀ s, s ∈ L ↔ ∃ j, j < n ∧ t j = s
  tun : ∀ s ∈ L, tuneB s = true
  nd : L.Nodup
theorem SameT.add {L : List ByteArray} {t : Nat → ByteArray} {n p : Nat} {s : ByteArray} (h : SameT L t n) (hs : s ∉ L) (ht : tuneB s = true) (hp : IsPl t n s p) : SameT (L ++ [s]) (ins t p s) (n + 1) := by
  have hle := hp.le
  refine ⟨hp.ins_srt h.srt (fun hst => hs ((h.mem s).2 ⟨p, hst⟩)), by simp [h.len], fun u => ?_, fun u hu => ?_, ?_⟩
  · rw [List.mem_append, h.mem, List.mem_singleton]
    constructor
    · rintro (⟨j, hj, e⟩ | rfl)
      · by_cases hjp : j < p
        · exact ⟨j, by omega, by unfold ins; rw [if_pos hjp]; exact e⟩
        · exact ⟨j + 1, by omega, by unfold ins; rw [if_neg (by omega), if_neg (by omega), Nat.add_sub_cancel]; exact e⟩
      · exact ⟨p, by omega, by unfold ins; rw [if_neg (by omega), if_pos rfl]⟩
    · rintro ⟨j, hj, e⟩
      unfold ins at e
      by_cases hjp : j < p
      · rw [if_pos hjp] at e; exact .inl ⟨j, by omega, e⟩
      · rw [if_neg hjp] at e
        by_cases hje : j = p
        · rw [if_pos hje] at e; exact .inr e.symm
        · rw [if_neg hje] at e; exact .inl ⟨j - 1, by omega, e⟩
  · rw [List.mem_append, List.mem_singleton] at hu
    rcases hu with hu | rfl
    · exact h.tun u hu
    · exact ht
  · rw [List.nodup_append]
    refine ⟨h.nd, by simp, fun a ha b hb => ?_⟩
    rw [List.mem_singleton] at hb
    subst hb
    rintro rfl
    exact hs ha
def hasTo (L : List ByteArray) (s : ByteArray) : Nat → Bool
  | 0 => false
  | k + 1 => hasTo L s k || decide (L[k]? = some s)
theorem hasTo_iff (L : List ByteArray) (s : ByteArray) : ∀ k, hasTo L s k = true ↔ ∃ j, j < k ∧ L[j]? = some s
  | 0 => by simp [hasTo]
  | k + 1 => by
    simp only [hasTo, Bool.or_eq_true, hasTo_iff L s k, decide_eq_true_eq]
    constructor
    · rintro (⟨j, hj, e⟩ | e)
      · exact ⟨j, by omega, e⟩
      · exact ⟨k, by omega, e⟩
    · rintro ⟨j, hj, e⟩
      by_cases h : j = k
      · subst h; exact .inr e
      · exact .inl ⟨j, by omega, e⟩
theorem hasTo_all (L : List ByteArray) (s : ByteArray) : hasTo L s L.length = true ↔ s ∈ L := by
  rw [hasTo_iff, List.mem_iff_getElem?]
  constructor
  · rintro ⟨j, _, e⟩; exact ⟨j, e⟩
  · rintro ⟨j, e⟩
    exact ⟨j, (List.getElem?_eq_some_iff.1 e).1, e⟩
theorem bx_own {w : World} {bx n base m g : Nat} {t : Nat → ByteArray} {cx : Nat → Value} {v : Value} {x : List Value} (h : BxAt w bx t n cx) (ho : w.ownsRow base 9 1 v m x) (hg : v.ownBlock = some g) : g ≠ bx := by
  rintro rfl
  obtain ⟨c, hb, _⟩ := h
  rcases ho.2 with ⟨rfl, _⟩ | ⟨g', cap, cur, rfl, _, h2, _⟩
  · simp [Value.ownBlock] at hg
  · simp only [Value.ownBlock, Option.some.injEq] at hg
    subst hg
    rw [hb] at h2
    injection h2 with h2
    injection h2 with _ h2
    exact absurd h2 (by decide)
set_option maxRecDepth 20000 in
set_option maxHeartbeats 8000000 in
theorem book_ok (ao : Option Addr) (len cap most : Nat) (z : Nat → Int) (w : World) (h : CodeAt w ao len z) (hlen : len ≤ 140737488355328) (hm : most ≤ 12) :
    Calls Try.prog 24 #[.slice ao len cap, .int .i64 (most : Int)] w fun e w' => Below w.heap.size w w' ∧ ∃ bx v L t n, e = .returned (.tuple #[.pointer (some ⟨bx, 0, none⟩), v, .bool true]) ∧ w.heap.size ≤ bx ∧ BxAt w' bx t n cur0 ∧ w'.ownsRow w.heap.size 9 1 v L.length (strs L) ∧ SameT L t n ∧ L.length ≤ 20 := by
  obtain ⟨i0, hi0, hz0, hz01, hz02⟩ := info_parts Try.infoStr
  have HNEW := tnew_ok w (fun _ => ByteArray.empty)
  go_enter Try.func24, Try.ntmps24
  go_wp2_with (go_at_call 43; refine HNEW.mono ?_; rintro e w1 ⟨hb1, bx, rfl, hbx, hx⟩; have HB1 : Hid (Below w.heap.size w w1) := hb1; have HX1 : Hid (BxAt w1 bx (fun _ => ByteArray.empty) 0 cur0) := hx; clear hb1 hx)
  go_loopw [8, 9, 10] (fun v s' i' wr => ∃ (i : Nat) (s : ByteArray) (L : List ByteArray) (t : Nat → ByteArray) (n : Nat), i ≤ len + 1 ∧ i' = .int .i64 (i : Int) ∧ s' = .string s ∧ IsText s ∧ s.size ≤ most ∧ Below w.heap.size w wr ∧ BxAt wr bx t n cur0 ∧ wr.ownsRow w.heap.size 9 1 v L.length (strs L) ∧ SameT L t n ∧ L.length ≤ 20) (fun _ _ i' _ => len + 1 - (intOf i').toNat)
  case atStart => exact ⟨0, ByteArray.empty, [], fun _ => ByteArray.empty, 0, by omega, rfl, rfl, by intro c hc; simp at hc, by simp, HB1.out, HX1.out, World.ownsRow_nil _ _ _ _, ⟨fun i j _ hj => absurd hj (by omega), rfl, fun s => by simp, fun s hs => by simp at hs, List.nodup_nil⟩, by simp⟩
  case round =>
    obtain ⟨i, s, L, t, n, hi, rfl, rfl, hs, hsz, hb, hx, hown, hsm, hL⟩ := hrel
    obtain ⟨oa, oc, hv, hsh⟩ := ownsRow_shape hown
    subst hv
    have hbs := hb.size
    have HB : Hid (Below w.heap.size w wr) := hb
    have HX : Hid (BxAt wr bx t n cur0) := hx
    have HS : Hid (IsText s) := hs
    have HSM : Hid (SameT L t n) := hsm
    have HO : Hid (wr.ownsRow w.heap.size 9 1 (.slice oa L.length oc) L.length (strs L)) := hown
    by_cases hil : i ≤ len
    · by_cases hl20 : L.length < 20
      · have q1 : (i : Int) ≤ (len : Int) := by omega
        have q2 : (L.length : Int) < 20 := by omega
        by_cases a1 : i < len
        · obtain ⟨b, o, rfl, hc⟩ := (h.below hb).cell i a1
          have hr := h.rng i a1
          have q3 : (i : Int) < (len : Int) := by omega
          by_cases a2 : (z i).tmod 9 ≠ 0
          · have q4 : ((z i).tmod 9 != 0) = true := by simp [a2]
            by_cases a3 : s.size < most
            · obtain ⟨pv, HPV⟩ : ∃ x, Hid (pickN (z i) 8 = x) := ⟨_, rfl⟩
              have hpv : pv < 8 := by rw [← HPV.out]; exact pickN_lt _ _ (by omega)
              have q5 : (s.size : Int) < (most : Int) := by omega
              have hss : s.size ≤ 12 := by omega
              clear h hb hx hs hown hsm hsh a2
              go_wp2_with fail
              refine (pick_any (z i) 8 _ (by omega) (by omega) hr.1 hr.2).mono ?_
              rw [show (8 : Int).toNat = 8 from rfl, HPV.out]
              rintro e w' ⟨rfl, hw'⟩
              obtain rfl : wr = w' := hw'.symm
              have hcv := conv_note pv hpv
              go_wp2_with fail
              go_roundw
              case rel =>
                refine ⟨i + 1, s ++ ⟨#[noteB pv]⟩, L, t, n, by omega, by go_num, rfl, isText_push _ _ HS.out (isText_note pv hpv), ?_, HB.out.alloc (by omega) _, HX.out.below ((Below.refl _ _).alloc (Nat.le_refl _) _), ownsRow_below HO.out ((Below.refl _ _).alloc (Nat.le_refl _) _), HSM.out, by omega⟩
                rw [ByteArray.size_append]
                show s.size + 1 ≤ most
                omega
              case measure => simp [intOf]; omega
            · have q5 : decide ((s.size : Int) < (most : Int)) = false := by simp; omega
              clear h hb hx hs hown hsm a2
              go_wp2_with fail
              go_loopw [11, 12] (fun th' k' wk => ∃ k q : Nat, k ≤ L.length ∧ th' = .bool (hasTo L s k) ∧ k' = .int .i64 (k : Int) ∧ wk = wr.drewN q) (fun _ k' _ => L.length - (intOf k').toNat)
              case atStart => exact ⟨0, 0, by omega, rfl, rfl, rfl⟩
              case round =>
                obtain ⟨k, q, hk, rfl, rfl, hwk⟩ := hrel
                rename World => wk
                have HWK : Hid (Below w.heap.size w wk ∧ BxAt wk bx t n cur0 ∧ wk.ownsRow w.heap.size 9 1 (.slice oa L.length oc) L.length (strs L)) := by
                  unfold Hid
                  rw [hwk]
                  exact ⟨below_drewN HB.out q, HX.out, ownsRow_below HO.out (below_drewN (Below.refl _ _) q)⟩
                have HWQ : Hid (wk = wr.drewN q) := hwk
                clear hwk
                by_cases hkl : k < L.length
                · obtain ⟨g, rfl, hce⟩ := hsh (by omega)
                  have cK : wk.cell? ⟨g, k, none⟩ = some (.string L[k]) := by
                    rw [HWQ.out]
                    exact (hce k (by omega)).trans (strs_get hkl)
                  obtain ⟨lk, HLK⟩ : ∃ x, Hid (L[k] = x) := ⟨L[k], by unfold Hid; rfl⟩
                  rw [HLK.out] at cK
                  have qk : (k : Int) < (L.length : Int) := by omega
                  have HNX : Hid (hasTo L s (k + 1) = (hasTo L s k || decide (lk = s))) := by
                    unfold Hid
                    rw [hasTo, List.getElem?_eq_getElem hkl, HLK.out]
                    simp
                  obtain ⟨bb, HBB⟩ : ∃ x, Hid (hasTo L s k = x) := ⟨_, rfl⟩
                  rw [HBB.out] at HNX ⊢
                  clear hsh hce
                  cases bb with
                  | true =>
                    go_wp2_with fail
                    go_roundw
                    case rel => exact ⟨k + 1, _, by omega, by rw [HNX.out]; simp, by go_num, HWQ.out⟩
                    case measure => simp [intOf]; omega
                  | false =>
                    by_cases elk : lk = s
                    · have qe : (lk.toList == s.toList) = true := by rw [beq_str]; simp [elk]
                      have HEL : Hid (lk = s) := elk
                      clear elk
                      go_wp2_with fail
                      go_roundw
                      case rel => exact ⟨k + 1, _, by omega, by rw [HNX.out, HEL.out]; simp, by go_num, HWQ.out⟩
                      case measure => simp [intOf]; omega
                    · have qe : (lk.toList == s.toList) = false := by rw [beq_str]; simp [elk]
                      go_wp2_with fail
                      go_roundw
                      case rel => exact ⟨k + 1, _, by omega, by rw [HNX.out]; simp [elk], by go_num, HWQ.out⟩
                      case measure => simp [intOf]; omega
                · have ek : k = L.length := by omega
                  have qk : ¬ (k : Int) < (L.length : Int) := by omega
                  obtain ⟨p, hp⟩ := exists_pl t s n
                  have htu : tuneB s = true := by simp [tuneB, (textTo_isText s).2 HS.out]; omega
                  have HADD := tadd_ok wk bx n t cur0 s p HWK.out.2.1 (by have := HSM.out.len; omega) (by unfold maxLen; omega) hp
                  have hstd : (p < n ∧ t p = s) ↔ s ∈ L := by rw [HSM.out.mem s, hp.stands HSM.out.srt]
                  have hsk := HWK.out.1.size
                  subst ek
                  cases hth : hasTo L s L.length with
                  | true =>
                    have hmem := (hasTo_all L s).1 hth
                    have e1 : addOk t n s p = false := by simp [addOk, hstd.2 hmem]
                    have e2 : addErr t n s p = 0 := by simp [addErr, htu, hstd.2 hmem]
                    rw [addT, addN, e1, e2] at HADD
                    clear hth hmem e1 e2 hstd hp htu hsh
                    go_wp2_with (go_at_call 35; refine HADD.mono ?_; rintro e w2 ⟨rfl, hx2, ht2⟩; have HX2 : Hid (BxAt w2 bx t n cur0) := hx2; have HT2 : Hid (Touch (fun j => j = bx) wk w2) := ht2; clear hx2 ht2)
                    go_roundw
                    case rel =>
                      have hbk := HWK.out.1
                      refine ⟨i + 1, ByteArray.empty, L, t, n, by omega, by go_num, rfl, by intro c hc; simp at hc, by simp, HT2.out.below hbk (by omega) (fun j e => by omega), HX2.out, HT2.out.own HWK.out.2.2 (fun g e hg => bx_own HWK.out.2.1 HWK.out.2.2 e hg), HSM.out, by omega⟩
                    case measure => simp [intOf]; omega
                  | false =>
                    have hmem : s ∉ L := fun hh => by rw [(hasTo_all L s).2 hh] at hth; cases hth
                    have hns : ¬ (p < n ∧ t p = s) := fun hh => hmem (hstd.1 hh)
                    have h60 : n < 60 := by have := HSM.out.len; omega
                    have e1 : addOk t n s p = true := by simp only [addOk, htu, hns, h60, decide_false, decide_true, Bool.not_false, Bool.and_self]
                    have e2 : addErr t n s p = 0 := by simp only [addErr, htu, hns, h60, if_true, if_false]
                    rw [addT, addN, e1, e2] at HADD
                    have HSM2 : Hid (SameT (L ++ [s]) (ins t p s) (n + 1)) := HSM.out.add hmem htu hp
                    have HNA : ∀ w2, Touch (fun j => j = bx) wk w2 → (w2.alloc (.cells #[.string s] 9)).ownsRow w.heap.size 9 1 (.slice oa L.length oc) L.length (strs L) ∧ Below w.heap.size w w2 ∧ w.heap.size ≤ w2.heap.size := fun w2 ht => by
                      have hb2 : Below w.heap.size w w2 := ht.below HWK.out.1 (by omega) (fun j e => by omega)
                      exact ⟨(ht.own HWK.out.2.2 (fun g e hg => bx_own HWK.out.2.1 HWK.out.2.2 e hg)).alloc _, hb2, hb2.size⟩
                    have HOW : Hid (∀ y, (Value.slice oa L.length oc).ownBlock = some y → w.heap.size ≤ y) := fun y e => (HWK.out.2.2.lt y e).1
                    clear hth hmem e1 e2 hstd hp htu hsh hns h60
                    go_wp2_with (first
                      | (go_at_call 35; refine HADD.mono ?_; rintro e w2 ⟨rfl, hx2, ht2⟩; obtain ⟨hna, hb2, hs2⟩ := HNA w2 ht2; have HX2 : Hid (BxAt w2 bx (ins t p s) (n + 1) cur0) := hx2; have HB2 : Hid (Below w.heap.size w w2) := hb2; clear hx2 ht2 hb2 HNA)
                      | (at_builtin; refine wpList_append_fresh _ rfl _ _ 39 rfl w.heap.size 9 i0 (.string ByteArray.empty) 1 16 Try.underlying39 hi0 hz0 hz01 hz02 rfl (by decide) _ L.length (strs L) rfl hna ⟨w2.heap.size, 0, none⟩ 1 1 [.string s] rfl rfl (cell_one_new _ _ _) (by intro u hu; simp at hu; subst hu; rfl) (by decide) (by unfold maxLen; omega) (by omega) (by simp; omega) ?_; intro g' cap' w3 hown3 hgr hfr; have HO3 : Hid (w3.ownsRow w.heap.size 9 1 (.slice (some ⟨g', 0, none⟩) (L.length + 1) cap') (L.length + 1) (strs L ++ [.string s])) := hown3; have HG3 : Hid ((w2.alloc (.cells #[.string s] 9)).grownBy w3 (Value.slice oa L.length oc).ownBlock) := hgr; clear hown3 hgr hfr))
                    go_roundw
                    case rel =>
                      have ho := HO3.out
                      rw [strs_snoc] at ho
                      refine ⟨i + 1, ByteArray.empty, L ++ [s], ins t p s, n + 1, by omega, by go_num, rfl, by intro c hc; simp at hc, by simp, (HB2.out.alloc (by omega) _).grown HG3.out (by simp; omega) (fun y e => HOW.out y e), ?_, by rw [List.length_append, List.length_singleton]; exact ho, HSM2.out, by rw [List.length_append, List.length_singleton]; omega⟩
                      have hxa : BxAt (w2.alloc (.cells #[.string s] 9)) bx (ins t p s) (n + 1) cur0 := HX2.out.below ((Below.refl _ _).alloc (Nat.le_refl _) _)
                      exact World.rowIs.of_block hxa (HG3.out.block bx (World.rowIs.lt hxa) (fun e => bx_own hxa hna e.symm rfl))
                    case measure => simp [intOf]; omega
          · have q4 : ((z i).tmod 9 != 0) = false := by simpa using a2
            clear h hb hx hs hown hsm a2
            go_wp2_with fail
            go_loopw [11, 12] (fun th' k' wk => ∃ k q : Nat, k ≤ L.length ∧ th' = .bool (hasTo L s k) ∧ k' = .int .i64 (k : Int) ∧ wk = wr.drewN q) (fun _ k' _ => L.length - (intOf k').toNat)
            case atStart => exact ⟨0, 0, by omega, rfl, rfl, rfl⟩
            case round =>
              obtain ⟨k, q, hk, rfl, rfl, hwk⟩ := hrel
              rename World => wk
              have HWK : Hid (Below w.heap.size w wk ∧ BxAt wk bx t n cur0 ∧ wk.ownsRow w.heap.size 9 1 (.slice oa L.length oc) L.length (strs L)) := by
                unfold Hid
                rw [hwk]
                exact ⟨below_drewN HB.out q, HX.out, ownsRow_below HO.out (below_drewN (Below.refl _ _) q)⟩
              have HWQ : Hid (wk = wr.drewN q) := hwk
              clear hwk
              by_cases hkl : k < L.length
              · obtain ⟨g, rfl, hce⟩ := hsh (by omega)
                have cK : wk.cell? ⟨g, k, none⟩ = some (.string L[k]) := by
                  rw [HWQ.out]
                  exact (hce k (by omega)).trans (strs_get hkl)
                obtain ⟨lk, HLK⟩ : ∃ x, Hid (L[k] = x) := ⟨L[k], by unfold Hid; rfl⟩
                rw [HLK.out] at cK
                have qk : (k : Int) < (L.length : Int) := by omega
                have HNX : Hid (hasTo L s (k + 1) = (hasTo L s k || decide (lk = s))) := by
                  unfold Hid
                  rw [hasTo, List.getElem?_eq_getElem hkl, HLK.out]
                  simp
                obtain ⟨bb, HBB⟩ : ∃ x, Hid (hasTo L s k = x) := ⟨_, rfl⟩
                rw [HBB.out] at HNX ⊢
                clear hsh hce
                cases bb with
                | true =>
                  go_wp2_with fail
                  go_roundw
                  case rel => exact ⟨k + 1, _, by omega, by rw [HNX.out]; simp, by go_num, HWQ.out⟩
                  case measure => simp [intOf]; omega
                | false =>
                  by_cases elk : lk = s
                  · have qe : (lk.toList == s.toList) = true := by rw [beq_str]; simp [elk]
                    have HEL : Hid (lk = s) := elk
                    clear elk
                    go_wp2_with fail
                    go_roundw
                    case rel => exact ⟨k + 1, _, by omega, by rw [HNX.out, HEL.out]; simp, by go_num, HWQ.out⟩
                    case measure => simp [intOf]; omega
                  · have qe : (lk.toList == s.toList) = false := by rw [beq_str]; simp [elk]
                    go_wp2_with fail
                    go_roundw
                    case rel => exact ⟨k + 1, _, by omega, by rw [HNX.out]; simp [elk], by go_num, HWQ.out⟩
                    case measure => simp [intOf]; omega
              · have ek : k = L.length := by omega
                have qk : ¬ (k : Int) < (L.length : Int) := by omega
                obtain ⟨p, hp⟩ := exists_pl t s n
                have htu : tuneB s = true := by simp [tuneB, (textTo_isText s).2 HS.out]; omega
                have HADD := tadd_ok wk bx n t cur0 s p HWK.out.2.1 (by have := HSM.out.len; omega) (by unfold maxLen; omega) hp
                have hstd : (p < n ∧ t p = s) ↔ s ∈ L := by rw [HSM.out.mem s, hp.stands HSM.out.srt]
                have hsk := HWK.out.1.size
                subst ek
                cases hth : hasTo L s L.length with
                | true =>
                  have hmem := (hasTo_all L s).1 hth
                  have e1 : addOk t n s p = false := by simp [addOk, hstd.2 hmem]
                  have e2 : addErr t n s p = 0 := by simp [addErr, htu, hstd.2 hmem]
                  rw [addT, addN, e1, e2] at HADD
                  clear hth hmem e1 e2 hstd hp htu hsh
                  go_wp2_with (go_at_call 35; refine HADD.mono ?_; rintro e w2 ⟨rfl, hx2, ht2⟩; have HX2 : Hid (BxAt w2 bx t n cur0) := hx2; have HT2 : Hid (Touch (fun j => j = bx) wk w2) := ht2; clear hx2 ht2)
                  go_roundw
                  case rel =>
                    have hbk := HWK.out.1
                    refine ⟨i + 1, ByteArray.empty, L, t, n, by omega, by go_num, rfl, by intro c hc; simp at hc, by simp, HT2.out.below hbk (by omega) (fun j e => by omega), HX2.out, HT2.out.own HWK.out.2.2 (fun g e hg => bx_own HWK.out.2.1 HWK.out.2.2 e hg), HSM.out, by omega⟩
                  case measure => simp [intOf]; omega
                | false =>
                  have hmem : s ∉ L := fun hh => by rw [(hasTo_all L s).2 hh] at hth; cases hth
                  have hns : ¬ (p < n ∧ t p = s) := fun hh => hmem (hstd.1 hh)
                  have h60 : n < 60 := by have := HSM.out.len; omega
                  have e1 : addOk t n s p = true := by simp only [addOk, htu, hns, h60, decide_false, decide_true, Bool.not_false, Bool.and_self]
                  have e2 : addErr t n s p = 0 := by simp only [addErr, htu, hns, h60, if_true, if_false]
                  rw [addT, addN, e1, e2] at HADD
                  have HSM2 : Hid (SameT (L ++ [s]) (ins t p s) (n + 1)) := HSM.out.add hmem htu hp
                  have HNA : ∀ w2, Touch (fun j => j = bx) wk w2 → (w2.alloc (.cells #[.string s] 9)).ownsRow w.heap.size 9 1 (.slice oa L.length oc) L.length (strs L) ∧ Below w.heap.size w w2 ∧ w.heap.size ≤ w2.heap.size := fun w2 ht => by
                    have hb2 : Below w.heap.size w w2 := ht.below HWK.out.1 (by omega) (fun j e => by omega)
                    exact ⟨(ht.own HWK.out.2.2 (fun g e hg => bx_own HWK.out.2.1 HWK.out.2.2 e hg)).alloc _, hb2, hb2.size⟩
                  have HOW : Hid (∀ y, (Value.slice oa L.length oc).ownBlock = some y → w.heap.size ≤ y) := fun y e => (HWK.out.2.2.lt y e).1
                  clear hth hmem e1 e2 hstd hp htu hsh hns h60
                  go_wp2_with (first
                    | (go_at_call 35; refine HADD.mono ?_; rintro e w2 ⟨rfl, hx2, ht2⟩; obtain ⟨hna, hb2, hs2⟩ := HNA w2 ht2; have HX2 : Hid (BxAt w2 bx (ins t p s) (n + 1) cur0) := hx2; have HB2 : Hid (Below w.heap.size w w2) := hb2; clear hx2 ht2 hb2 HNA)
                    | (at_builtin; refine wpList_append_fresh _ rfl _ _ 39 rfl w.heap.size 9 i0 (.string ByteArray.empty) 1 16 Try.underlying39 hi0 hz0 hz01 hz02 rfl (by decide) _ L.length (strs L) rfl hna ⟨w2.heap.size, 0, none⟩ 1 1 [.string s] rfl rfl (cell_one_new _ _ _) (by intro u hu; simp at hu; subst hu; rfl) (by decide) (by unfold maxLen; omega) (by omega) (by simp; omega) ?_; intro g' cap' w3 hown3 hgr hfr; have HO3 : Hid (w3.ownsRow w.heap.size 9 1 (.slice (some ⟨g', 0, none⟩) (L.length + 1) cap') (L.length + 1) (strs L ++ [.string s])) := hown3; have HG3 : Hid ((w2.alloc (.cells #[.string s] 9)).grownBy w3 (Value.slice oa L.length oc).ownBlock) := hgr; clear hown3 hgr hfr))
                  go_roundw
                  case rel =>
                    have ho := HO3.out
                    rw [strs_snoc] at ho
                    refine ⟨i + 1, ByteArray.empty, L ++ [s], ins t p s, n + 1, by omega, by go_num, rfl, by intro c hc; simp at hc, by simp, (HB2.out.alloc (by omega) _).grown HG3.out (by simp; omega) (fun y e => HOW.out y e), ?_, by rw [List.length_append, List.length_singleton]; exact ho, HSM2.out, by rw [List.length_append, List.length_singleton]; omega⟩
                    have hxa : BxAt (w2.alloc (.cells #[.string s] 9)) bx (ins t p s) (n + 1) cur0 := HX2.out.below ((Below.refl _ _).alloc (Nat.le_refl _) _)
                    exact World.rowIs.of_block hxa (HG3.out.block bx (World.rowIs.lt hxa) (fun e => bx_own hxa hna e.symm rfl))
                  case measure => simp [intOf]; omega
        · have q3 : decide ((i : Int) < (len : Int)) = false := by simp; omega
          clear h hb hx hs hown hsm
          go_wp2_with fail
          go_loopw [11, 12] (fun th' k' wk => ∃ k q : Nat, k ≤ L.length ∧ th' = .bool (hasTo L s k) ∧ k' = .int .i64 (k : Int) ∧ wk = wr.drewN q) (fun _ k' _ => L.length - (intOf k').toNat)
          case atStart => exact ⟨0, 0, by omega, rfl, rfl, rfl⟩
          case round =>
            obtain ⟨k, q, hk, rfl, rfl, hwk⟩ := hrel
            rename World => wk
            have HWK : Hid (Below w.heap.size w wk ∧ BxAt wk bx t n cur0 ∧ wk.ownsRow w.heap.size 9 1 (.slice oa L.length oc) L.length (strs L)) := by
              unfold Hid
              rw [hwk]
              exact ⟨below_drewN HB.out q, HX.out, ownsRow_below HO.out (below_drewN (Below.refl _ _) q)⟩
            have HWQ : Hid (wk = wr.drewN q) := hwk
            clear hwk
            by_cases hkl : k < L.length
            · obtain ⟨g, rfl, hce⟩ := hsh (by omega)
              have cK : wk.cell? ⟨g, k, none⟩ = some (.string L[k]) := by
                rw [HWQ.out]
                exact (hce k (by omega)).trans (strs_get hkl)
              obtain ⟨lk, HLK⟩ : ∃ x, Hid (L[k] = x) := ⟨L[k], by unfold Hid; rfl⟩
              rw [HLK.out] at cK
              have qk : (k : Int) < (L.length : Int) := by omega
              have HNX : Hid (hasTo L s (k + 1) = (hasTo L s k || decide (lk = s))) := by
                unfold Hid
                rw [hasTo, List.getElem?_eq_getElem hkl, HLK.out]
                simp
              obtain ⟨bb, HBB⟩ : ∃ x, Hid (hasTo L s k = x) := ⟨_, rfl⟩
              rw [HBB.out] at HNX ⊢
              clear hsh hce
              cases bb with
              | true =>
                go_wp2_with fail
                go_roundw
                case rel => exact ⟨k + 1, _, by omega, by rw [HNX.out]; simp, by go_num, HWQ.out⟩
                case measure => simp [intOf]; omega
              | false =>
                by_cases elk : lk = s
                · have qe : (lk.toList == s.toList) = true := by rw [beq_str]; simp [elk]
                  have HEL : Hid (lk = s) := elk
                  clear elk
                  go_wp2_with fail
                  go_roundw
                  case rel => exact ⟨k + 1, _, by omega, by rw [HNX.out, HEL.out]; simp, by go_num, HWQ.out⟩
                  case measure => simp [intOf]; omega
                · have qe : (lk.toList == s.toList) = false := by rw [beq_str]; simp [elk]
                  go_wp2_with fail
                  go_roundw
                  case rel => exact ⟨k + 1, _, by omega, by rw [HNX.out]; simp [elk], by go_num, HWQ.out⟩
                  case measure => simp [intOf]; omega
            · have ek : k = L.length := by omega
              have qk : ¬ (k : Int) < (L.length : Int) := by omega
              obtain ⟨p, hp⟩ := exists_pl t s n
              have htu : tuneB s = true := by simp [tuneB, (textTo_isText s).2 HS.out]; omega
              have HADD := tadd_ok wk bx n t cur0 s p HWK.out.2.1 (by have := HSM.out.len; omega) (by unfold maxLen; omega) hp
              have hstd : (p < n ∧ t p = s) ↔ s ∈ L := by rw [HSM.out.mem s, hp.stands HSM.out.srt]
              have hsk := HWK.out.1.size
              subst ek
              cases hth : hasTo L s L.length with
              | true =>
                have hmem := (hasTo_all L s).1 hth
                have e1 : addOk t n s p = false := by simp [addOk, hstd.2 hmem]
                have e2 : addErr t n s p = 0 := by simp [addErr, htu, hstd.2 hmem]
                rw [addT, addN, e1, e2] at HADD
                clear hth hmem e1 e2 hstd hp htu hsh
                go_wp2_with (go_at_call 35; refine HADD.mono ?_; rintro e w2 ⟨rfl, hx2, ht2⟩; have HX2 : Hid (BxAt w2 bx t n cur0) := hx2; have HT2 : Hid (Touch (fun j => j = bx) wk w2) := ht2; clear hx2 ht2)
                go_roundw
                case rel =>
                  have hbk := HWK.out.1
                  refine ⟨i + 1, ByteArray.empty, L, t, n, by omega, by go_num, rfl, by intro c hc; simp at hc, by simp, HT2.out.below hbk (by omega) (fun j e => by omega), HX2.out, HT2.out.own HWK.out.2.2 (fun g e hg => bx_own HWK.out.2.1 HWK.out.2.2 e hg), HSM.out, by omega⟩
                case measure => simp [intOf]; omega
              | false =>
                have hmem : s ∉ L := fun hh => by rw [(hasTo_all L s).2 hh] at hth; cases hth
                have hns : ¬ (p < n ∧ t p = s) := fun hh => hmem (hstd.1 hh)
                have h60 : n < 60 := by have := HSM.out.len; omega
                have e1 : addOk t n s p = true := by simp only [addOk, htu, hns, h60, decide_false, decide_true, Bool.not_false, Bool.and_self]
                have e2 : addErr t n s p = 0 := by simp only [addErr, htu, hns, h60, if_true, if_false]
                rw [addT, addN, e1, e2] at HADD
                have HSM2 : Hid (SameT (L ++ [s]) (ins t p s) (n + 1)) := HSM.out.add hmem htu hp
                have HNA : ∀ w2, Touch (fun j => j = bx) wk w2 → (w2.alloc (.cells #[.string s] 9)).ownsRow w.heap.size 9 1 (.slice oa L.length oc) L.length (strs L) ∧ Below w.heap.size w w2 ∧ w.heap.size ≤ w2.heap.size := fun w2 ht => by
                  have hb2 : Below w.heap.size w w2 := ht.below HWK.out.1 (by omega) (fun j e => by omega)
                  exact ⟨(ht.own HWK.out.2.2 (fun g e hg => bx_own HWK.out.2.1 HWK.out.2.2 e hg)).alloc _, hb2, hb2.size⟩
                have HOW : Hid (∀ y, (Value.slice oa L.length oc).ownBlock = some y → w.heap.size ≤ y) := fun y e => (HWK.out.2.2.lt y e).1
                clear hth hmem e1 e2 hstd hp htu hsh hns h60
                go_wp2_with (first
                  | (go_at_call 35; refine HADD.mono ?_; rintro e w2 ⟨rfl, hx2, ht2⟩; obtain ⟨hna, hb2, hs2⟩ := HNA w2 ht2; have HX2 : Hid (BxAt w2 bx (ins t p s) (n + 1) cur0) := hx2; have HB2 : Hid (Below w.heap.size w w2) := hb2; clear hx2 ht2 hb2 HNA)
                  | (at_builtin; refine wpList_append_fresh _ rfl _ _ 39 rfl w.heap.size 9 i0 (.string ByteArray.empty) 1 16 Try.underlying39 hi0 hz0 hz01 hz02 rfl (by decide) _ L.length (strs L) rfl hna ⟨w2.heap.size, 0, none⟩ 1 1 [.string s] rfl rfl (cell_one_new _ _ _) (by intro u hu; simp at hu; subst hu; rfl) (by decide) (by unfold maxLen; omega) (by omega) (by simp; omega) ?_; intro g' cap' w3 hown3 hgr hfr; have HO3 : Hid (w3.ownsRow w.heap.size 9 1 (.slice (some ⟨g', 0, none⟩) (L.length + 1) cap') (L.length + 1) (strs L ++ [.string s])) := hown3; have HG3 : Hid ((w2.alloc (.cells #[.string s] 9)).grownBy w3 (Value.slice oa L.length oc).ownBlock) := hgr; clear hown3 hgr hfr))
                go_roundw
                case rel =>
                  have ho := HO3.out
                  rw [strs_snoc] at ho
                  refine ⟨i + 1, ByteArray.empty, L ++ [s], ins t p s, n + 1, by omega, by go_num, rfl, by intro c hc; simp at hc, by simp, (HB2.out.alloc (by omega) _).grown HG3.out (by simp; omega) (fun y e => HOW.out y e), ?_, by rw [List.length_append, List.length_singleton]; exact ho, HSM2.out, by rw [List.length_append, List.length_singleton]; omega⟩
                  have hxa : BxAt (w2.alloc (.cells #[.string s] 9)) bx (ins t p s) (n + 1) cur0 := HX2.out.below ((Below.refl _ _).alloc (Nat.le_refl _) _)
                  exact World.rowIs.of_block hxa (HG3.out.block bx (World.rowIs.lt hxa) (fun e => bx_own hxa hna e.symm rfl))
                case measure => simp [intOf]; omega
      · have q1 : (i : Int) ≤ (len : Int) := by omega
        have q2 : decide ((L.length : Int) < 20) = false := by simp; omega
        clear h hb hx hs hown hsm hsh
        go_wp2_with fail
        go_ret3
        exact ⟨HB.out, bx, _, L, t, n, rfl, hbx, HX.out, HO.out, HSM.out, hL⟩
    · have q1 : decide ((i : Int) ≤ (len : Int)) = false := by simp; omega
      clear h hb hx hs hown hsm hsh
      go_wp2_with fail
      go_ret3
      exact ⟨HB.out, bx, _, L, t, n, rfl, hbx, HX.out, HO.out, HSM.out, hL⟩
end Go.Proofs.Ytpngikmcjkjdaab

namespace Go.Proofs.Ytpngikmcjkjdaab
open Go.RowKit
set_option linter.unusedVariables false
set_option linter.unusedSimpArgs false
theorem oneCell_strs (l : List ByteArray) : ∀ u ∈ strs l, u.oneCell' = true := by
  intro u hu
  obtain ⟨s, _, rfl⟩ := List.mem_map.1 hu
  rfl
theorem strs_app (a b : List ByteArray) : strs a ++ strs b = strs (a ++ b) := by simp [strs]
theorem take_more (W : List ByteArray) (g l : Nat) : W.take g ++ (W.drop g).take l = W.take (g + l) := (List.take_add (l := W)).symm
theorem take_len (W : List ByteArray) {g : Nat} (h : g ≤ W.length) : (W.take g).length = g := by rw [List.length_take]; omega
theorem own_from {w : World} {base base' e s n : Nat} {v : Value} {x : List Value} (h : w.ownsRow base e s v n x) (hb : base' ≤ base) : w.ownsRow base' e s v n x := by
  refine ⟨h.1, ?_⟩
  rcases h.2 with h2 | ⟨g, cap, cur, h3, h4, h5⟩
  · exact .inl h2
  · exact .inr ⟨g, cap, cur, h3, Nat.le_trans hb h4, h5⟩
structure DrawI (w1 wr : World) (bx n g : Nat) (t : Nat → ByteArray) (U : Lay) (M : Tab) (W : List ByteArray) (v : Value) : Prop where
  bk : BxAt wr bx t n (cuv (curG U M W g))
  row : wr.ownsRow w1.heap.size 9 1 v g (strs (W.take g))
  tch : Touch (fun j => j = bx) w1 wr
theorem DrawI.more {w1 w2 w3 : World} {bx n g m l : Nat} {t : Nat → ByteArray} {U : Lay} {M : Tab} {W : List ByteArray} {v v' : Value} (hx : BxAt w2 bx t n (cuv (curG U M W (g + m)))) (hl : min l (W.length - g) = m)
    (h2 : w2.ownsRow w1.heap.size 9 1 v g (strs (W.take g))) (h3 : Touch (fun j => j = bx) w1 w2) (ho : w3.ownsRow w1.heap.size 9 1 v' (g + m) (strs (W.take g) ++ strs ((W.drop g).take l))) (hG : w2.grownBy w3 v.ownBlock) : DrawI w1 w3 bx n (g + m) t U M W v' := by
  refine ⟨World.rowIs.of_block hx (hG.block bx (World.rowIs.lt hx) (fun e => bx_own hx h2 e.symm rfl)), ?_, h3.grown hG (fun k e => .inr (h2.lt k e).1)⟩
  have e : W.take g ++ (W.drop g).take l = W.take (g + m) := by
    rw [take_more]
    by_cases hc : l ≤ W.length - g
    · rw [show m = l by omega]
    · rw [List.take_of_length_le (show W.length ≤ g + l by omega), List.take_of_length_le (show W.length ≤ g + m by omega)]
  rw [strs_app, e] at ho
  exact ho
theorem next_page {wr : World} {bx n g l : Nat} {t : Nat → ByteArray} {U : Lay} {M : Tab} {W : List ByteArray} (hW : allW M t n = W) (h : BxAt wr bx t n (cuv (curG U M W g))) (hs : SrtB t n) (hn : n ≤ 60) (htu : ∀ i, i < n → tuneB (t i) = true) (hM : M.Ok) (hT : TabAt wr U M) (hg : g ≤ W.length) (hl1 : 1 ≤ l) (hl : l ≤ 50) :
    Calls Try.prog 34 #[.pointer (some ⟨bx, 0, none⟩), .int .i64 0, .int .i64 (l : Int)] wr fun e w' => ∃ v, e = .returned (.tuple #[v, .bool (decide (W.length - g ≤ l)), .int .i64 0]) ∧ w'.ownsRow wr.heap.size 9 1 v (min l (W.length - g)) (strs ((W.drop g).take l)) ∧ BxAt w' bx t n (cuv (curG U M W (g + min l (W.length - g)))) ∧ Touch (fun j => j = bx) wr w' := by
  subst hW
  obtain ⟨h1, h2, h3⟩ := cuG_parts U M (allW M t n) g
  have H := tnext_ok wr bx n 0 l t (curG U M (allW M t n) g) U M h hn (by omega) h1 hl1 hl htu h2 h3 hM hT
  have e0 : curG U M (allW M t n) g 0 = cuG U M (allW M t n) g := rfl
  obtain ⟨c1, c2⟩ := choose_behind (U := U) (M := M) (l := l) hs hg
  rw [e0, c1, c2, next_behind U M _ hg] at H
  rw [show (((allW M t n).drop g).take l).length = min l ((allW M t n).length - g) by rw [List.length_take, List.length_drop]] at H
  exact H
theorem open_page {w : World} {bx n : Nat} {t : Nat → ByteArray} {V : Lay} {M : Tab} (W : List ByteArray) (hM : M.Ok) (hV : TabAt w V M) (h : BxAt w bx t n cur0) :
    Calls Try.prog 33 #[.pointer (some ⟨bx, 0, none⟩), .agg #[.slice (some ⟨V.ba, V.oa, none⟩) M.n V.ca, .slice (some ⟨V.bn, V.on, none⟩) M.n V.cn]] w
      fun e w' => ∃ U : Lay, e = .returned (.tuple #[.int .i64 0, .int .i64 0]) ∧ TabAt w' U M ∧ U.From w.heap.size M.n ∧ BxAt w' bx t n (cuv (curG U M W 0)) ∧ Touch (fun k => k = bx) w w' := by
  rw [← cuv_shut] at h
  exact topen_ok V M w bx n t (fun _ => shut) hM hV h (by decide)
end Go.Proofs.Ytpngikmcjkjdaab
