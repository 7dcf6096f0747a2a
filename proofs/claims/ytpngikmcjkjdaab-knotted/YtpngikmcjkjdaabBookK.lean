import Derived.Test.YtpngikmcjkjdaabBookM
namespace Go.Proofs.Ytpngikmcjkjdaab
open Go.RowKit
set_option linter.unusedVariables false
set_option linter.unusedSimpArgs false

theorem lsb_at (s : ByteArray) (i : Nat) (h : i < s.size) : (lsb s).getD i 0 = s[i] := getD_byte s i h
set_option maxRecDepth 20000 in
set_option maxHeartbeats 1000000 in
theorem common_ok (a b : ByteArray) (w : World) (ha : a.size ≤ maxLen) (hb : b.size ≤ maxLen) :
    Calls Try.prog 83 #[.string a, .string b] w fun e w' => e = .returned (.int .i64 ((comm (lsb a) (lsb b) : Nat) : Int)) ∧ ∃ m, w' = w.drewN m := by
  unfold maxLen at ha hb
  obtain ⟨c, HC⟩ : ∃ c, Hid (comm (lsb a) (lsb b) = c) := ⟨_, rfl⟩
  rw [HC.out]
  have hle := (le_comm (lsb a) (lsb b) c).1 (by rw [HC.out]; exact Nat.le_refl _)
  rw [lsb_size, lsb_size] at hle
  obtain ⟨la, lb, _⟩ := hle
  go_enter Try.func83, Try.ntmps83
  go_wp2_with fail
  go_loopw [5] (fun v wr => ∃ i q : Nat, i ≤ c ∧ v = .int .i64 (i : Int) ∧ wr = w.drewN q) (fun v _ => c - (intOf v).toNat)
  case atStart => exact ⟨0, 0, by omega, rfl, rfl⟩
  case round =>
    obtain ⟨i, q, hi, rfl, rfl⟩ := hrel
    have hst := comm_step (lsb a) (lsb b) i (by rw [HC.out]; exact hi)
    rw [HC.out, lsb_size, lsb_size] at hst
    by_cases h1 : i < a.size
    · by_cases h2 : i < b.size
      · rw [lsb_at a i h1, lsb_at b i h2] at hst
        by_cases h3 : a[i] = b[i]
        · have h4 : i < c := by
            apply Nat.lt_of_le_of_ne hi
            intro e
            exact hst.1 e.symm ⟨h1, h2, h3⟩
          have h5 : ((a[i].toNat : Int) == (b[i].toNat : Int)) = true := by simp [h3]
          have q1 : (i : Int) < (a.size : Int) := by omega
          have q2 : (i : Int) < (b.size : Int) := by omega
          clear hst h3
          go_wp2_with fail
          go_quiet (fail)
          go_wp2_with fail
          go_roundw
          case rel => exact ⟨i + 1, _, by omega, by go_num, rfl⟩
          case measure => simp [intOf]; omega
        · have h5 : ((a[i].toNat : Int) == (b[i].toNat : Int)) = false := by
            simp only [beq_eq_false_iff_ne, ne_eq]
            intro e
            exact h3 (UInt8.toNat_inj.1 (by omega))
          have e : c = i := hst.2 (fun h => h3 h.2.2)
          have q1 : (i : Int) < (a.size : Int) := by omega
          have q2 : (i : Int) < (b.size : Int) := by omega
          clear hst h3
          subst e
          go_wp2_with fail
          go_quiet (fail)
          go_wp2_with fail
          go_ret
          exact ⟨rfl, _, by rw [World.drewN_drewN]⟩
      · have e : c = i := hst.2 (fun h => h2 h.2.1)
        have q1 : (i : Int) < (a.size : Int) := by omega
        have q2 : ¬ (i : Int) < (b.size : Int) := by omega
        clear hst
        subst e
        go_wp2_with fail
        go_quiet (fail)
        go_wp2_with fail
        go_ret
        exact ⟨rfl, _, by rw [World.drewN_drewN]⟩
    · have e : c = i := hst.2 (fun h => h1 h.1)
      have q1 : ¬ (i : Int) < (a.size : Int) := by omega
      clear hst
      subst e
      go_wp2_with fail
      go_quiet (fail)
      go_wp2_with fail
      go_ret
      exact ⟨rfl, _, by rw [World.drewN_drewN]⟩

set_option maxRecDepth 20000 in
set_option maxHeartbeats 1000000 in
theorem known_ok (w : World) (bx n : Nat) (t : Nat → ByteArray) (cx : Nat → Value) (h : BxAt w bx t n cx) (hn : n ≤ 60) (hz : ∀ i, i < n → (t i).size ≤ 12) (i : Nat) (hi : i < n) :
    Calls Try.prog 63 #[.pointer (some ⟨bx, 0, none⟩), .int .i64 (i : Int)] w fun e w' => e = .returned (.int .i64 ((known (fun j => lsb (t j)) i : Nat) : Int)) ∧ ∃ m, w' = w.drewN m := by
  unfold known
  cases i with
  | zero =>
    rw [if_pos rfl]
    clear h
    go_enter Try.func63, Try.ntmps63
    go_wp2_with fail
    go_ret
    exact ⟨rfl, 0, rfl⟩
  | succ k =>
    rw [if_neg (by omega), Nat.add_sub_cancel]
    have c0 := h.tune hn (i := k) (by omega)
    have c1 := h.tune hn hi
    have z0 := hz k (by omega)
    have z1 := hz (k + 1) hi
    have HC := fun w => common_ok (t k) (t (k + 1)) w (by unfold maxLen; omega) (by unfold maxLen; omega)
    generalize comm (lsb (t k)) (lsb (t (k + 1))) = m at *
    have hne : ((k : Int) + 1 == 0) = false := by simp; omega
    have hwk : IntKind.i64.wrap (k : Int) = (k : Int) := by rw [IntKind.wrap_i64]; omega
    rw [show ((k + 1 : Nat) : Int) = (k : Int) + 1 by simp]
    clear h
    go_enter Try.func63, Try.ntmps63
    go_wp2_with fail
    go_quiet ((go_at_call 83; exact Calls.quiet_of (HC _)))
    go_wp2_with fail
    go_ret
    exact ⟨rfl, _, rfl⟩

open Classical in
noncomputable def partsB (t : Nat → ByteArray) (n i m : Nat) : Bool := decide (Parts (fun j => lsb (t j)) n i m)
open Classical in
theorem partsB_yes {t : Nat → ByteArray} {n i m : Nat} (h : Parts (fun j => lsb (t j)) n i m) : partsB t n i m = true := by rw [partsB]; exact decide_eq_true h
open Classical in
theorem partsB_no {t : Nat → ByteArray} {n i m : Nat} (h : ¬ Parts (fun j => lsb (t j)) n i m) : partsB t n i m = false := by rw [partsB]; exact decide_eq_false h
open Classical in
theorem partsB_iff {t : Nat → ByteArray} {n i m : Nat} : partsB t n i m = true ↔ Parts (fun j => lsb (t j)) n i m := by rw [partsB, decide_eq_true_iff]

set_option maxRecDepth 20000 in
set_option maxHeartbeats 1000000 in
theorem parts_ok (w : World) (bx n : Nat) (t : Nat → ByteArray) (cx : Nat → Value) (h : BxAt w bx t n cx) (hn : n ≤ 60) (hz : ∀ i, i < n → (t i).size ≤ 12) (i m : Nat) (hi : i < n) :
    Calls Try.prog 64 #[.pointer (some ⟨bx, 0, none⟩), .int .i64 (i : Int), .int .i64 (m : Int)] w fun e w' => e = .returned (.bool (partsB t n i m)) ∧ ∃ q, w' = w.drewN q := by
  have c60 := h.cnt
  have c0 := h.tune hn hi
  have z0 := hz i hi
  go_enter Try.func64, Try.ntmps64
  go_wp2_with fail
  go_loopw [7] (fun v wr => ∃ j q : Nat, wr = w.drewN q ∧ i < j ∧ j ≤ n ∧ v = .int .i64 (j : Int) ∧ ∀ k, i < k → k < j → comm (lsb (t i)) (lsb (t k)) ≠ m) (fun v _ => n - (intOf v).toNat)
  case atStart => exact ⟨i + 1, 0, rfl, by omega, by omega, by go_num, fun k h1 h2 => by omega⟩
  case round =>
    obtain ⟨j, q, hwr, h1, h2, rfl, hno⟩ := hrel
    have HW : Hid (wr = w.drewN q) := hwr
    have d60 : wr.cell? ⟨bx, 60, none⟩ = some (.int .i64 (n : Int)) := by rw [hwr]; exact c60
    have d0 : wr.cell? ⟨bx, i, none⟩ = some (.string (t i)) := by rw [hwr]; exact c0
    clear c60 c0
    have HN : Hid (∀ k, i < k → k < j → comm (lsb (t i)) (lsb (t k)) ≠ m) := hno
    clear hno
    by_cases hlt : j < n
    · have c1 : wr.cell? ⟨bx, j, none⟩ = some (.string (t j)) := by rw [hwr]; exact h.tune hn hlt
      have z1 := hz j hlt
      clear hwr
      have HC := fun w => common_ok (t i) (t j) w (by unfold maxLen; omega) (by unfold maxLen; omega)
      obtain ⟨c, HCC⟩ : ∃ c, Hid (comm (lsb (t i)) (lsb (t j)) = c) := ⟨_, rfl⟩
      simp only [HCC.out] at HC
      have q1 : (j : Int) < (n : Int) := by omega
      clear h hz
      by_cases e : c = m
      · have q2 : ((c : Int) == (m : Int)) = true := by simp [e]
        go_wp2_with fail
        go_quiet ((go_at_call 83; exact Calls.quiet_of (HC _)))
        go_wp2_with fail
        go_ret
        exact ⟨ret_bool (partsB_yes ⟨j, h1, hlt, by rw [← e]; exact HCC.out⟩).symm, _, by rw [HW.out, World.drewN_drewN]⟩
      · have q2 : ((c : Int) == (m : Int)) = false := by simp; omega
        go_wp2_with fail
        go_quiet ((go_at_call 83; exact Calls.quiet_of (HC _)))
        go_wp2_with fail
        go_roundw
        case rel => exact ⟨j + 1, _, by rw [HW.out, World.drewN_drewN], by omega, by omega, by go_num, fun k k1 k2 => by
          by_cases e' : k = j
          · subst e'; rw [HCC.out]; exact e
          · exact HN.out k k1 (by omega)⟩
        case measure => simp [intOf]; omega
    · have e : j = n := by omega
      have q1 : ¬ (j : Int) < (n : Int) := by omega
      clear h hz hwr
      go_wp2_with fail
      go_ret
      refine ⟨ret_bool (partsB_no ?_).symm, _, HW.out⟩
      rintro ⟨k, k1, k2, k3⟩
      exact absurd k3 (HN.out k k1 (by omega))

theorem Try.infoS : (Try.prog.info? 9).map (fun i => (i.zero, i.size, i.bytes)) = some (some (.string ByteArray.empty), 1, 16) := by kernel_rfl
theorem BxAt.below {w w' : World} {bx n : Nat} {t : Nat → ByteArray} {cx : Nat → Value} (h : BxAt w bx t n cx) (hb : Below w.heap.size w w') : BxAt w' bx t n cx := World.rowIs.of_block h (hb.block bx (World.rowIs.lt h))
theorem known_le (t : Nat → ByteArray) (i : Nat) : known (fun j => lsb (t j)) i ≤ (t i).size := by
  unfold known
  split
  · omega
  · have := (le_comm (lsb (t (i - 1))) (lsb (t i)) _).1 (Nat.le_refl _)
    rw [lsb_size, lsb_size] at this
    exact this.2.1

set_option maxRecDepth 20000 in
set_option maxHeartbeats 4000000 in
theorem bknots_ok (w : World) (bx n : Nat) (t : Nat → ByteArray) (cx : Nat → Value) (h : BxAt w bx t n cx) (hn : n ≤ 60) (hz : ∀ i, i < n → (t i).size ≤ 12) :
    Calls Try.prog 45 #[.pointer (some ⟨bx, 0, none⟩)] w fun e w' => Below w.heap.size w w' ∧ ∃ v, e = .returned v ∧ w'.ownsRow w.heap.size 9 1 v (knots t n n).length (strs (knots t n n)) := by
  obtain ⟨i0, hi0, hz0, hz01, hz02⟩ := info_parts Try.infoS
  go_enter Try.func45, Try.ntmps45
  go_wp2_with fail
  go_loopw [3, 4] (fun v a' wr => ∃ i : Nat, i ≤ n ∧ a' = .int .i64 (i : Int) ∧ Below w.heap.size w wr ∧ wr.ownsRow w.heap.size 9 1 v (knots t n i).length (strs (knots t n i))) (fun _ a' _ => n - (intOf a').toNat)
  case atStart => exact ⟨0, by omega, rfl, (Below.refl _ _).alloc (Nat.le_refl _) _, by simp [knots, strs], .inr ⟨_, _, _, rfl, Nat.le_refl _, heap_at_new rfl, by simp [knots], by unfold maxLen; omega, by simp, by simp [knots, strs]; rfl⟩⟩
  case round =>
    obtain ⟨i, hi, rfl, hb, hown⟩ := hrel
    have hx := h.below hb
    have c60 := hx.cnt
    by_cases hlt : i < n
    · have c0 := hx.tune hn hlt
      have z0 := hz i hlt
      have q1 : (i : Int) < (n : Int) := by omega
      have HK := known_ok wr bx n t cx hx hn hz i hlt
      have hkl := known_le t i
      obtain ⟨kn, HKN⟩ : ∃ x, Hid (known (fun j => lsb (t j)) i = x) := ⟨_, rfl⟩
      rw [HKN.out] at HK hkl
      have HB : Hid (Below w.heap.size w wr) := hb
      have HO : Hid (wr.ownsRow w.heap.size 9 1 u3 (knots t n i).length (strs (knots t n i))) := hown
      clear hb hown
      go_wp2_with (go_at_call 63; refine HK.mono ?_; rintro e w' ⟨rfl, qk, rfl⟩)
      have hwk : IntKind.i64.wrap ((kn : Int) + 1) = (kn : Int) + 1 := by rw [IntKind.wrap_i64]; omega
      go_loopw [3, 6] (fun v l' wi => ∃ m : Nat, kn ≤ m ∧ m ≤ (t i).size ∧ l' = .int .i64 ((m : Int) + 1) ∧ Below w.heap.size w wi ∧ wi.ownsRow w.heap.size 9 1 v (knots t n i ++ kin t n i m).length (strs (knots t n i ++ kin t n i m))) (fun _ l' _ => 20 - (intOf l').toNat)
      case atStart =>
        refine ⟨kn, Nat.le_refl _, hkl, rfl, below_drewN HB.out qk, ?_⟩
        rw [kin_known t n i kn (by rw [HKN.out]; exact Nat.le_refl _), List.append_nil]
        exact ownsRow_below HO.out (below_drewN (Below.refl _ _) qk)
      case round =>
        obtain ⟨m, hkm, hm, rfl, hb, hown⟩ := hrel
        rename World => wi
        have hxi := h.below hb
        have hln : (knots t n i ++ kin t n i m).length ≤ 1000 := by
          have a1 := knots_len t n hz i (by omega)
          have a2 := kin_len t n i m
          rw [List.length_append]; omega
        have hbs := hb.size
        by_cases hms : m < (t i).size
        · have q2 : (m : Int) + 1 ≤ ((t i).size : Int) := by omega
          have HPA := fun wj (hj : BxAt wj bx t n cx) => parts_ok wj bx n t cx hj hn hz i (m + 1) hlt
          have hkno : known (fun j => lsb (t j)) i < m + 1 := by rw [HKN.out]; omega
          have hna := hown.alloc (.cells #[.string ((t i).extract 0 (m + 1))] 9)
          have HBI : Hid (Below w.heap.size w wi) := hb
          have HOI : Hid (wi.ownsRow w.heap.size 9 1 u3 (knots t n i ++ kin t n i m).length (strs (knots t n i ++ kin t n i m))) := hown
          have HXI : Hid (BxAt wi bx t n cx) := hxi
          have HOW : Hid (∀ x, (u3 : Value).ownBlock = some x → w.heap.size ≤ x) := fun x e => (hown.lt x e).1
          clear hb hown hxi HK HO
          have el : isKnot t n i (m + 1) → (knots t n i ++ kin t n i m).length + 1 = (knots t n i ++ kin t n i (m + 1)).length := fun hy => by rw [kin_yes hy]; simp only [List.length_append, List.length_singleton]; omega
          have HEL : Hid _ := el
          clear el
          by_cases hend : m + 1 = (t i).size
          · have HYES : Hid (isKnot t n i (m + 1)) := ⟨hkno, .inl hend⟩
            have q3 : ((m : Int) + 1 == ((t i).size : Int)) = true := by simp; omega
            clear hend HPA
            go_wp2_with (at_builtin; refine wpList_append_fresh _ rfl _ _ 39 rfl w.heap.size 9 i0 (.string ByteArray.empty) 1 16 Try.underlying39 hi0 hz0 hz01 hz02 rfl (by decide) _ (knots t n i ++ kin t n i m).length (strs (knots t n i ++ kin t n i m)) rfl hna ⟨wi.heap.size, 0, none⟩ 1 1 [.string ((t i).extract 0 (m + 1))] rfl rfl (cell_one_new _ _ _) (by intro u hu; simp at hu; subst hu; rfl) (by decide) (by unfold maxLen; omega) (by omega) (by simp; omega) ?_; intro g cap w3 hown3 hgr hfr; have HO3 : Hid (w3.ownsRow w.heap.size 9 1 (.slice (some ⟨g, 0, none⟩) ((knots t n i ++ kin t n i m).length + 1) cap) ((knots t n i ++ kin t n i m).length + 1) (strs (knots t n i ++ kin t n i m) ++ [.string ((t i).extract 0 (m + 1))])) := hown3; have HG3 : Hid ((wi.alloc (.cells #[.string ((t i).extract 0 (m + 1))] 9)).grownBy w3 (u3 : Value).ownBlock) := hgr; clear hown3 hgr hfr)
            go_roundw
            case rel =>
              have ho := HO3.out
              rw [strs_snoc, List.append_assoc, ← kin_yes HYES.out, HEL.out HYES.out] at ho
              exact ⟨m + 1, by omega, by omega, by go_num, (HBI.out.alloc (by omega) _).grown HG3.out (by simp; omega) (fun x e => HOW.out x e), by
                rw [show (knots t n i).length + (kin t n i m).length + 1 = (knots t n i ++ kin t n i (m + 1)).length by have := HEL.out HYES.out; rw [List.length_append] at this; exact this]
                exact ho⟩
            case measure => simp [intOf]; omega
          · have q3 : ((m : Int) + 1 == ((t i).size : Int)) = false := by simp; omega
            have HPB := HPA wi HXI.out
            rw [show ((m + 1 : Nat) : Int) = (m : Int) + 1 by simp] at HPB
            cases hpb : partsB t n i (m + 1) with
            | true =>
              have HYES : Hid (isKnot t n i (m + 1)) := ⟨hkno, .inr (partsB_iff.1 hpb)⟩
              rw [hpb] at HPB
              have HNA : ∀ w2, (∃ q, w2 = wi.drewN q) → (w2.alloc (.cells #[.string ((t i).extract 0 (m + 1))] 9)).ownsRow w.heap.size 9 1 u3 (knots t n i ++ kin t n i m).length (strs (knots t n i ++ kin t n i m)) ∧ Below w.heap.size w w2 ∧ w.heap.size ≤ w2.heap.size := by
                rintro w2 ⟨q, rfl⟩
                exact ⟨(ownsRow_below HOI.out (below_drewN (Below.refl _ _) q)).alloc _, below_drewN HBI.out q, (below_drewN HBI.out q).size⟩
              clear HPA hpb hna
              go_wp2_with (first
                | (go_at_call 64; refine HPB.mono ?_; rintro e w2 ⟨rfl, hw2⟩; obtain ⟨hna, hb2, hs2⟩ := HNA w2 hw2; have HB2 : Hid (Below w.heap.size w w2) := hb2; clear hw2 hb2 HNA)
                | (at_builtin; refine wpList_append_fresh _ rfl _ _ 39 rfl w.heap.size 9 i0 (.string ByteArray.empty) 1 16 Try.underlying39 hi0 hz0 hz01 hz02 rfl (by decide) _ (knots t n i ++ kin t n i m).length (strs (knots t n i ++ kin t n i m)) rfl hna ⟨w2.heap.size, 0, none⟩ 1 1 [.string ((t i).extract 0 (m + 1))] rfl rfl (cell_one_new _ _ _) (by intro u hu; simp at hu; subst hu; rfl) (by decide) (by unfold maxLen; omega) (by omega) (by simp; omega) ?_; intro g cap w3 hown3 hgr hfr; have HO3 : Hid (w3.ownsRow w.heap.size 9 1 (.slice (some ⟨g, 0, none⟩) ((knots t n i ++ kin t n i m).length + 1) cap) ((knots t n i ++ kin t n i m).length + 1) (strs (knots t n i ++ kin t n i m) ++ [.string ((t i).extract 0 (m + 1))])) := hown3; have HG3 : Hid ((w2.alloc (.cells #[.string ((t i).extract 0 (m + 1))] 9)).grownBy w3 (u3 : Value).ownBlock) := hgr; clear hown3 hgr hfr))
              go_roundw
              case rel =>
                have ho := HO3.out
                rw [strs_snoc, List.append_assoc, ← kin_yes HYES.out, HEL.out HYES.out] at ho
                exact ⟨m + 1, by omega, by omega, by go_num, (HB2.out.alloc (by omega) _).grown HG3.out (by simp; omega) (fun x e => HOW.out x e), by
                rw [show (knots t n i).length + (kin t n i m).length + 1 = (knots t n i ++ kin t n i (m + 1)).length by have := HEL.out HYES.out; rw [List.length_append] at this; exact this]
                exact ho⟩
              case measure => simp [intOf]; omega
            | false =>
              have HNO : Hid (¬ isKnot t n i (m + 1)) := fun hh => by
                rcases hh.2 with h' | h'
                · exact hend h'
                · rw [partsB_iff.2 h'] at hpb; cases hpb
              rw [hpb] at HPB
              clear HPA hpb
              go_wp2_with (go_at_call 64; refine HPB.mono ?_; rintro e w' ⟨rfl, qp, rfl⟩)
              go_roundw
              case rel =>
                have ho := ownsRow_below HOI.out (below_drewN (Below.refl _ _) qp)
                rw [← kin_no HNO.out] at ho
                exact ⟨m + 1, by omega, by omega, by go_num, below_drewN HBI.out qp, ho⟩
              case measure => simp [intOf]; omega
        · have e : m = (t i).size := by omega
          have q2 : ¬ (m : Int) + 1 ≤ ((t i).size : Int) := by omega
          have HBI : Hid (Below w.heap.size w wi) := hb
          have HOI : Hid (wi.ownsRow w.heap.size 9 1 u3 (knots t n i ++ kin t n i m).length (strs (knots t n i ++ kin t n i m))) := hown
          clear hb hown hxi HK HO
          go_wp2_with fail
          go_roundw
          case rel =>
            refine ⟨i + 1, by omega, by go_num, HBI.out, ?_⟩
            have := HOI.out
            rw [e] at this
            exact this
          case measure => simp [intOf]; omega
    · have e : i = n := by omega
      have q1 : ¬ (i : Int) < (n : Int) := by omega
      subst e
      have HB : Hid (Below w.heap.size w wr) := hb
      have HO : Hid (wr.ownsRow w.heap.size 9 1 u3 (knots t i i).length (strs (knots t i i))) := hown
      clear hb hown
      go_wp2_with fail
      go_ret
      exact ⟨HB.out, _, rfl, HO.out⟩
end Go.Proofs.Ytpngikmcjkjdaab
