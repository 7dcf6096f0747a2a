import Derived.Deep.AppendLies
import Derived.Deep.RegionHeld3
import Derived.Test.YtpngikmcjkjdaabG5
import Derived.Test.YtpngikmcjkjdaabG6
set_option linter.unusedVariables false
set_option linter.unusedSimpArgs false
namespace Go.Proofs.Ytpngikmcjkjdaab
open Go.RowKit
set_option linter.unusedVariables false
set_option linter.unusedSimpArgs false
structure SameT (L : List ByteArray) (t : Nat → ByteArray) (n : Nat) : Prop where
  srt : SrtB t n
  len : L.length = n
  mem : ∀ s, s ∈ L ↔ ∃ j, j < n ∧ t j = s
  tun : ∀ s ∈ L, tuneB s = true
  nd : L.Nodup
theorem SameT.add {L : List ByteArray} {t : Nat → ByteArray} {n p : Nat} {s : ByteArray} (h : SameT L t n) (hs : s ∉ L) (ht : tuneB s = true) (hp : IsPl t n s p) : SameT (L ++ [s]) (ins t p s) (n + 1) := by
  have hle := hp.le
  refine ⟨hp.ins_srt h.srt (fun hst => hs ((h.mem s).2 ⟨p, hst⟩)), by simp [h.len], fun u => ?_, fun u hu => ?_, ?_⟩
  · rw [List.mem_append, h.mem, List.mem_singleton]
    constructor
    · rintro (⟨j, hj, e⟩ | rfl)
      · by_cases hjp : j < p
        · exact ⟨j, by omega, by unfold ins; rw [if_pos hjp]; exact e⟩
        · exact ⟨j + 1, by omega, by unfold ins; rw [if_neg (by omega), if_neg (by omega), Nat.add_sub_cancel]; exact e⟩
      · exact ⟨p, by omega, by unfold ins; rw [if_neg (by omega), if_pos rfl]⟩
    · rintro ⟨j, hj, e⟩
      unfold ins at e
      by_cases hjp : j < p
      · rw [if_pos hjp] at e; exact .inl ⟨j, by omega, e⟩
      · rw [if_neg hjp] at e
        by_cases hje : j = p
        · rw [if_pos hje] at e; exact .inr e.symm
        · rw [if_neg hje] at e; exact .inl ⟨j - 1, by omega, e⟩
  · rw [List.mem_append, List.mem_singleton] at hu
    rcases hu with hu | rfl
    · exact h.tun u hu
    · exact ht
  · rw [List.nodup_append]
    refine ⟨h.nd, by simp, fun a ha b hb => ?_⟩
    rw [List.mem_singleton] at hb
    subst hb
    rintro rfl
    exact hs ha
def hasTo (L : List ByteArray) (s : ByteArray) : Nat → Bool
  | 0 => false
  | k + 1 => hasTo L s k || decide (L[k]? = some s)
theorem hasTo_iff (L : List ByteArray) (s : ByteArray) : ∀ k, hasTo L s k = true ↔ ∃ j, j < k ∧ L[j]? = some s
  | 0 => by simp [hasTo]
  | k + 1 => by
    simp only [hasTo, Bool.or_eq_true, hasTo_iff L s k, decide_eq_true_eq]
    constructor
    · rintro (⟨j, hj, e⟩ | e)
      · exact ⟨j, by omega, e⟩
      · exact ⟨k, by omega, e⟩
    · rintro ⟨j, hj, e⟩
      by_cases h : j = k
      · subst h; exact .inr e
      · exact .inl ⟨j, by omega, e⟩
theorem hasTo_all (L : List ByteArray) (s : ByteArray) : hasTo L s L.length = true ↔ s ∈ L := by
  rw [hasTo_iff, List.mem_iff_getElem?]
  constructor
  · rintro ⟨j, _, e⟩; exact ⟨j, e⟩
  · rintro ⟨j, e⟩
    exact ⟨j, (List.getElem?_eq_some_iff.1 e).1, e⟩
theorem bx_own {w : World} {bx n base m g : Nat} {t : Nat → ByteArray} {cx : Nat → Value} {v : Value} {x : List Value} (h : BxAt w bx t n cx) (ho : w.ownsRow base 9 1 v m x) (hg : v.ownBlock = some g) : g ≠ bx := by
  rintro rfl
  obtain ⟨c, hb, _⟩ := h
  rcases ho.2 with ⟨rfl, _⟩ | ⟨g', cap, cur, rfl, _, h2, _⟩
  · simp [Value.ownBlock] at hg
  · simp only [Value.ownBlock, Option.some.injEq] at hg
    subst hg
    rw [hb] at h2
    injection h2 with h2
    injection h2 with _ h2
    exact absurd h2 (by decide)
set_option maxRecDepth 20000 in
set_option maxHeartbeats 8000000 in
theorem book_ok (ao : Option Addr) (len cap most : Nat) (z : Nat → Int) (w : World) (h : CodeAt w ao len z) (hlen : len ≤ 140737488355328) (hm : most ≤ 12) :
    Calls Try.prog 24 #[.slice ao len cap, .int .i64 (most : Int)] w fun e w' => Below w.heap.size w w' ∧ ∃ bx v L t n, e = .returned (.tuple #[.pointer (some ⟨bx, 0, none⟩), v, .bool true]) ∧ w.heap.size ≤ bx ∧ BxAt w' bx t n cur0 ∧ w'.ownsRow w.heap.size 9 1 v L.length (strs L) ∧ SameT L t n ∧ L.length ≤ 20 := by
  obtain ⟨i0, hi0, hz0, hz01, hz02⟩ := info_parts Try.infoStr
  have HNEW := tnew_ok w (fun _ => ByteArray.empty)
  go_enter Try.func24, Try.ntmps24
  go_wp2_with (go_at_call 43; refine HNEW.mono ?_; rintro e w1 ⟨hb1, bx, rfl, hbx, hx⟩; have HB1 : Hid (Below w.heap.size w w1) := hb1; have HX1 : Hid (BxAt w1 bx (fun _ => ByteArray.empty) 0 cur0) := hx; clear hb1 hx)
  go_loopw [8, 9, 10] (fun v s' i' wr => ∃ (i : Nat) (s : ByteArray) (L : List ByteArray) (t : Nat → ByteArray) (n : Nat), i ≤ len + 1 ∧ i' = .int .i64 (i : Int) ∧ s' = .string s ∧ IsText s ∧ s.size ≤ most ∧ Below w.heap.size w wr ∧ BxAt wr bx t n cur0 ∧ wr.ownsRow w.heap.size 9 1 v L.length (strs L) ∧ SameT L t n ∧ L.length ≤ 20) (fun _ _ i' _ => len + 1 - (intOf i').toNat)
  case atStart => exact ⟨0, ByteArray.empty, [], fun _ => ByteArray.empty, 0, by omega, rfl, rfl, by intro c hc; simp at hc, by simp, HB1.out, HX1.out, World.ownsRow_nil _ _ _ _, ⟨fun i j _ hj => absurd hj (by omega), rfl, fun s => by simp, fun s hs => by simp at hs, List.nodup_nil⟩, by simp⟩
  case round =>
    obtain ⟨i, s, L, t, n, hi, rfl, rfl, hs, hsz, hb, hx, hown, hsm, hL⟩ := hrel
    obtain ⟨oa, oc, hv, hsh⟩ := ownsRow_shape hown
    subst hv
    have hbs := hb.size
    have HB : Hid (Below w.heap.size w wr) := hb
    have HX : Hid (BxAt wr bx t n cur0) := hx
    have HS : Hid (IsText s) := hs
    have HSM : Hid (SameT L t n) := hsm
    have HO : Hid (wr.ownsRow w.heap.size 9 1 (.slice oa L.length oc) L.length (strs L)) := hown
    by_cases hil : i ≤ len
    · by_cases hl20 : L.length < 20
      · have q1 : (i : Int) ≤ (len : Int) := by omega
        have q2 : (L.length : Int) < 20 := by omega
        by_cases a1 : i < len
        · obtain ⟨b, o, rfl, hc⟩ := (h.below hb).cell i a1
          have hr := h.rng i a1
          have q3 : (i : Int) < (len : Int) := by omega
          by_cases a2 : (z i).tmod 9 ≠ 0
          · have q4 : ((z i).tmod 9 != 0) = true := by simp [a2]
            by_cases a3 : s.size < most
            · obtain ⟨pv, HPV⟩ : ∃ x, Hid (pickN (z i) 8 = x) := ⟨_, rfl⟩
              have hpv : pv < 8 := by rw [← HPV.out]; exact pickN_lt _ _ (by omega)
              have q5 : (s.size : Int) < (most : Int) := by omega
              have hss : s.size ≤ 12 := by omega
              clear h hb hx hs hown hsm hsh a2
              go_wp2_with fail
              refine (pick_any (z i) 8 _ (by omega) (by omega) hr.1 hr.2).mono ?_
              rw [show (8 : Int).toNat = 8 from rfl, HPV.out]
              rintro e w' ⟨rfl, hw'⟩
              obtain rfl : wr = w' := hw'.symm
              have hcv := conv_note pv hpv
              go_wp2_with fail
              go_roundw
              case rel =>
                refine ⟨i + 1, s ++ ⟨#[noteB pv]⟩, L, t, n, by omega, by go_num, rfl, isText_push _ _ HS.out (isText_note pv hpv), ?_, HB.out.alloc (by omega) _, HX.out.below ((Below.refl _ _).alloc (Nat.le_refl _) _), ownsRow_below HO.out ((Below.refl _ _).alloc (Nat.le_refl _) _), HSM.out, by omega⟩
                rw [ByteArray.size_append]
                show s.size + 1 ≤ most
                omega
              case measure => simp [intOf]; omega
            · have q5 : decide ((s.size : Int) < (most : Int)) = false := by simp; omega
              clear h hb hx hs hown hsm a2
              go_wp2_with fail
              go_loopw [11, 12] (fun th' k' wk => ∃ k q : Nat, k ≤ L.length ∧ th' = .bool (hasTo L s k) ∧ k' = .int .i64 (k : Int) ∧ wk = wr.drewN q) (fun _ k' _ => L.length - (intOf k').toNat)
              case atStart => exact ⟨0, 0, by omega, rfl, rfl, rfl⟩
              case round =>
                obtain ⟨k, q, hk, rfl, rfl, hwk⟩ := hrel
                rename World => wk
                have HWK : Hid (Below w.heap.size w wk ∧ BxAt wk bx t n cur0 ∧ wk.ownsRow w.heap.size 9 1 (.slice oa L.length oc) L.length (strs L)) := by
                  unfold Hid
                  rw [hwk]
                  exact ⟨below_drewN HB.out q, HX.out, ownsRow_below HO.out (below_drewN (Below.refl _ _) q)⟩
                have HWQ : Hid (wk = wr.drewN q) := hwk
                clear hwk
                by_cases hkl : k < L.length
                · obtain ⟨g, rfl, hce⟩ := hsh (by omega)
                  have cK : wk.cell? ⟨g, k, none⟩ = some (.string L[k]) := by
                    rw [HWQ.out]
                    exact (hce k (by omega)).trans (strs_get hkl)
                  obtain ⟨lk, HLK⟩ : ∃ x, Hid (L[k] = x) := ⟨L[k], by unfold Hid; rfl⟩
                  rw [HLK.out] at cK
                  have qk : (k : Int) < (L.length : Int) := by omega
                  have HNX : Hid (hasTo L s (k + 1) = (hasTo L s k || decide (lk = s))) := by
                    unfold Hid
                    rw [hasTo, List.getElem?_eq_getElem hkl, HLK.out]
                    simp
                  obtain ⟨bb, HBB⟩ : ∃ x, Hid (hasTo L s k = x) := ⟨_, rfl⟩
                  rw [HBB.out] at HNX ⊢
                  clear hsh hce
                  cases bb with
                  | true =>
                    go_wp2_with fail
                    go_roundw
                    case rel => exact ⟨k + 1, _, by omega, by rw [HNX.out]; simp, by go_num, HWQ.out⟩
                    case measure => simp [intOf]; omega
                  | false =>
                    by_cases elk : lk = s
                    · have qe : (lk.toList == s.toList) = true := by rw [beq_str]; simp [elk]
                      have HEL : Hid (lk = s) := elk
                      clear elk
                      go_wp2_with fail
                      go_roundw
                      case rel => exact ⟨k + 1, _, by omega, by rw [HNX.out, HEL.out]; simp, by go_num, HWQ.out⟩
                      case measure => simp [intOf]; omega
                    · have qe : (lk.toList == s.toList) = false := by rw [beq_str]; simp [elk]
                      go_wp2_with fail
                      go_roundw
                      case rel => exact ⟨k + 1, _, by omega, by rw [HNX.out]; simp [elk], by go_num, HWQ.out⟩
                      case measure => simp [intOf]; omega
                · have ek : k = L.length := by omega
                  have qk : ¬ (k : Int) < (L.length : Int) := by omega
                  obtain ⟨p, hp⟩ := exists_pl t s n
                  have htu : tuneB s = true := by simp [tuneB, (textTo_isText s).2 HS.out]; omega
                  have HADD := tadd_ok wk bx n t cur0 s p HWK.out.2.1 (by have := HSM.out.len; omega) (by unfold maxLen; omega) hp
                  have hstd : (p < n ∧ t p = s) ↔ s ∈ L := by rw [HSM.out.mem s, hp.stands HSM.out.srt]
                  have hsk := HWK.out.1.size
                  subst ek
                  cases hth : hasTo L s L.length with
                  | true =>
                    have hmem := (hasTo_all L s).1 hth
                    have e1 : addOk t n s p = false := by simp [addOk, hstd.2 hmem]
                    have e2 : addErr t n s p = 0 := by simp [addErr, htu, hstd.2 hmem]
                    rw [addT, addN, e1, e2] at HADD
                    clear hth hmem e1 e2 hstd hp htu hsh
                    go_wp2_with (go_at_call 35; refine HADD.mono ?_; rintro e w2 ⟨rfl, hx2, ht2⟩; have HX2 : Hid (BxAt w2 bx t n cur0) := hx2; have HT2 : Hid (Touch (fun j => j = bx) wk w2) := ht2; clear hx2 ht2)
                    go_roundw
                    case rel =>
                      have hbk := HWK.out.1
                      refine ⟨i + 1, ByteArray.empty, L, t, n, by omega, by go_num, rfl, by intro c hc; simp at hc, by simp, HT2.out.below hbk (by omega) (fun j e => by omega), HX2.out, HT2.out.own HWK.out.2.2 (fun g e hg => bx_own HWK.out.2.1 HWK.out.2.2 e hg), HSM.out, by omega⟩
                    case measure => simp [intOf]; omega
                  | false =>
                    have hmem : s ∉ L := fun hh => by rw [(hasTo_all L s).2 hh] at hth; cases hth
                    have hns : ¬ (p < n ∧ t p = s) := fun hh => hmem (hstd.1 hh)
                    have h60 : n < 60 := by have := HSM.out.len; omega
                    have e1 : addOk t n s p = true := by simp only [addOk, htu, hns, h60, decide_false, decide_true, Bool.not_false, Bool.and_self]
                    have e2 : addErr t n s p = 0 := by simp only [addErr, htu, hns, h60, if_true, if_false]
                    rw [addT, addN, e1, e2] at HADD
                    have HSM2 : Hid (SameT (L ++ [s]) (ins t p s) (n + 1)) := HSM.out.add hmem htu hp
                    have HNA : ∀ w2, Touch (fun j => j = bx) wk w2 → (w2.alloc (.cells #[.string s] 9)).ownsRow w.heap.size 9 1 (.slice oa L.length oc) L.length (strs L) ∧ Below w.heap.size w w2 ∧ w.heap.size ≤ w2.heap.size := fun w2 ht => by
                      have hb2 : Below w.heap.size w w2 := ht.below HWK.out.1 (by omega) (fun j e => by omega)
                      exact ⟨(ht.own HWK.out.2.2 (fun g e hg => bx_own HWK.out.2.1 HWK.out.2.2 e hg)).alloc _, hb2, hb2.size⟩
                    have HOW : Hid (∀ y, (Value.slice oa L.length oc).ownBlock = some y → w.heap.size ≤ y) := fun y e => (HWK.out.2.2.lt y e).1
                    clear hth hmem e1 e2 hstd hp htu hsh hns h60
                    go_wp2_with (first
                      | (go_at_call 35; refine HADD.mono ?_; rintro e w2 ⟨rfl, hx2, ht2⟩; obtain ⟨hna, hb2, hs2⟩ := HNA w2 ht2; have HX2 : Hid (BxAt w2 bx (ins t p s) (n + 1) cur0) := hx2; have HB2 : Hid (Below w.heap.size w w2) := hb2; clear hx2 ht2 hb2 HNA)
                      | (at_builtin; refine wpList_append_fresh _ rfl _ _ 39 rfl w.heap.size 9 i0 (.string ByteArray.empty) 1 16 Try.underlying39 hi0 hz0 hz01 hz02 rfl (by decide) _ L.length (strs L) rfl hna ⟨w2.heap.size, 0, none⟩ 1 1 [.string s] rfl rfl (cell_one_new _ _ _) (by intro u hu; simp at hu; subst hu; rfl) (by decide) (by unfold maxLen; omega) (by omega) (by simp; omega) ?_; intro g' cap' w3 hown3 hgr hfr; have HO3 : Hid (w3.ownsRow w.heap.size 9 1 (.slice (some ⟨g', 0, none⟩) (L.length + 1) cap') (L.length + 1) (strs L ++ [.string s])) := hown3; have HG3 : Hid ((w2.alloc (.cells #[.string s] 9)).grownBy w3 (Value.slice oa L.length oc).ownBlock) := hgr; clear hown3 hgr hfr))
                    go_roundw
                    case rel =>
                      have ho := HO3.out
                      rw [strs_snoc] at ho
                      refine ⟨i + 1, ByteArray.empty, L ++ [s], ins t p s, n + 1, by omega, by go_num, rfl, by intro c hc; simp at hc, by simp, (HB2.out.alloc (by omega) _).grown HG3.out (by simp; omega) (fun y e => HOW.out y e), ?_, by rw [List.length_append, List.length_singleton]; exact ho, HSM2.out, by rw [List.length_append, List.length_singleton]; omega⟩
                      have hxa : BxAt (w2.alloc (.cells #[.string s] 9)) bx (ins t p s) (n + 1) cur0 := HX2.out.below ((Below.refl _ _).alloc (Nat.le_refl _) _)
                      exact World.rowIs.of_block hxa (HG3.out.block bx (World.rowIs.lt hxa) (fun e => bx_own hxa hna e.symm rfl))
                    case measure => simp [intOf]; omega
          · have q4 : ((z i).tmod 9 != 0) = false := by simpa using a2
            clear h hb hx hs hown hsm a2
            go_wp2_with fail
            go_loopw [11, 12] (fun th' k' wk => ∃ k q : Nat, k ≤ L.length ∧ th' = .bool (hasTo L s k) ∧ k' = .int .i64 (k : Int) ∧ wk = wr.drewN q) (fun _ k' _ => L.length - (intOf k').toNat)
            case atStart => exact ⟨0, 0, by omega, rfl, rfl, rfl⟩
            case round =>
              obtain ⟨k, q, hk, rfl, rfl, hwk⟩ := hrel
              rename World => wk
              have HWK : Hid (Below w.heap.size w wk ∧ BxAt wk bx t n cur0 ∧ wk.ownsRow w.heap.size 9 1 (.slice oa L.length oc) L.length (strs L)) := by
                unfold Hid
                rw [hwk]
                exact ⟨below_drewN HB.out q, HX.out, ownsRow_below HO.out (below_drewN (Below.refl _ _) q)⟩
              have HWQ : Hid (wk = wr.drewN q) := hwk
              clear hwk
              by_cases hkl : k < L.length
              · obtain ⟨g, rfl, hce⟩ := hsh (by omega)
                have cK : wk.cell? ⟨g, k, none⟩ = some (.string L[k]) := by
                  rw [HWQ.out]
                  exact (hce k (by omega)).trans (strs_get hkl)
                obtain ⟨lk, HLK⟩ : ∃ x, Hid (L[k] = x) := ⟨L[k], by unfold Hid; rfl⟩
                rw [HLK.out] at cK
                have qk : (k : Int) < (L.length : Int) := by omega
                have HNX : Hid (hasTo L s (k + 1) = (hasTo L s k || decide (lk = s))) := by
                  unfold Hid
                  rw [hasTo, List.getElem?_eq_getElem hkl, HLK.out]
                  simp
                obtain ⟨bb, HBB⟩ : ∃ x, Hid (hasTo L s k = x) := ⟨_, rfl⟩
                rw [HBB.out] at HNX ⊢
                clear hsh hce
                cases bb with
                | true =>
                  go_wp2_with fail
                  go_roundw
                  case rel => exact ⟨k + 1, _, by omega, by rw [HNX.out]; simp, by go_num, HWQ.out⟩
                  case measure => simp [intOf]; omega
                | false =>
                  by_cases elk : lk = s
                  · have qe : (lk.toList == s.toList) = true := by rw [beq_str]; simp [elk]
                    have HEL : Hid (lk = s) := elk
                    clear elk
                    go_wp2_with fail
                    go_roundw
                    case rel => exact ⟨k + 1, _, by omega, by rw [HNX.out, HEL.out]; simp, by go_num, HWQ.out⟩
                    case measure => simp [intOf]; omega
                  · have qe : (lk.toList == s.toList) = false := by rw [beq_str]; simp [elk]
                    go_wp2_with fail
                    go_roundw
                    case rel => exact ⟨k + 1, _, by omega, by rw [HNX.out]; simp [elk], by go_num, HWQ.out⟩
                    case measure => simp [intOf]; omega
              · have ek : k = L.length := by omega
                have qk : ¬ (k : Int) < (L.length : Int) := by omega
                obtain ⟨p, hp⟩ := exists_pl t s n
                have htu : tuneB s = true := by simp [tuneB, (textTo_isText s).2 HS.out]; omega
                have HADD := tadd_ok wk bx n t cur0 s p HWK.out.2.1 (by have := HSM.out.len; omega) (by unfold maxLen; omega) hp
                have hstd : (p < n ∧ t p = s) ↔ s ∈ L := by rw [HSM.out.mem s, hp.stands HSM.out.srt]
                have hsk := HWK.out.1.size
                subst ek
                cases hth : hasTo L s L.length with
                | true =>
                  have hmem := (hasTo_all L s).1 hth
                  have e1 : addOk t n s p = false := by simp [addOk, hstd.2 hmem]
                  have e2 : addErr t n s p = 0 := by simp [addErr, htu, hstd.2 hmem]
                  rw [addT, addN, e1, e2] at HADD
                  clear hth hmem e1 e2 hstd hp htu hsh
                  go_wp2_with (go_at_call 35; refine HADD.mono ?_; rintro e w2 ⟨rfl, hx2, ht2⟩; have HX2 : Hid (BxAt w2 bx t n cur0) := hx2; have HT2 : Hid (Touch (fun j => j = bx) wk w2) := ht2; clear hx2 ht2)
                  go_roundw
                  case rel =>
                    have hbk := HWK.out.1
                    refine ⟨i + 1, ByteArray.empty, L, t, n, by omega, by go_num, rfl, by intro c hc; simp at hc, by simp, HT2.out.below hbk (by omega) (fun j e => by omega), HX2.out, HT2.out.own HWK.out.2.2 (fun g e hg => bx_own HWK.out.2.1 HWK.out.2.2 e hg), HSM.out, by omega⟩
                  case measure => simp [intOf]; omega
                | false =>
                  have hmem : s ∉ L := fun hh => by rw [(hasTo_all L s).2 hh] at hth; cases hth
                  have hns : ¬ (p < n ∧ t p = s) := fun hh => hmem (hstd.1 hh)
                  have h60 : n < 60 := by have := HSM.out.len; omega
                  have e1 : addOk t n s p = true := by simp only [addOk, htu, hns, h60, decide_false, decide_true, Bool.not_false, Bool.and_self]
                  have e2 : addErr t n s p = 0 := by simp only [addErr, htu, hns, h60, if_true, if_false]
                  rw [addT, addN, e1, e2] at HADD
                  have HSM2 : Hid (SameT (L ++ [s]) (ins t p s) (n + 1)) := HSM.out.add hmem htu hp
                  have HNA : ∀ w2, Touch (fun j => j = bx) wk w2 → (w2.alloc (.cells #[.string s] 9)).ownsRow w.heap.size 9 1 (.slice oa L.length oc) L.length (strs L) ∧ Below w.heap.size w w2 ∧ w.heap.size ≤ w2.heap.size := fun w2 ht => by
                    have hb2 : Below w.heap.size w w2 := ht.below HWK.out.1 (by omega) (fun j e => by omega)
                    exact ⟨(ht.own HWK.out.2.2 (fun g e hg => bx_own HWK.out.2.1 HWK.out.2.2 e hg)).alloc _, hb2, hb2.size⟩
                  have HOW : Hid (∀ y, (Value.slice oa L.length oc).ownBlock = some y → w.heap.size ≤ y) := fun y e => (HWK.out.2.2.lt y e).1
                  clear hth hmem e1 e2 hstd hp htu hsh hns h60
                  go_wp2_with (first
                    | (go_at_call 35; refine HADD.mono ?_; rintro e w2 ⟨rfl, hx2, ht2⟩; obtain ⟨hna, hb2, hs2⟩ := HNA w2 ht2; have HX2 : Hid (BxAt w2 bx (ins t p s) (n + 1) cur0) := hx2; have HB2 : Hid (Below w.heap.size w w2) := hb2; clear hx2 ht2 hb2 HNA)
                    | (at_builtin; refine wpList_append_fresh _ rfl _ _ 39 rfl w.heap.size 9 i0 (.string ByteArray.empty) 1 16 Try.underlying39 hi0 hz0 hz01 hz02 rfl (by decide) _ L.length (strs L) rfl hna ⟨w2.heap.size, 0, none⟩ 1 1 [.string s] rfl rfl (cell_one_new _ _ _) (by intro u hu; simp at hu; subst hu; rfl) (by decide) (by unfold maxLen; omega) (by omega) (by simp; omega) ?_; intro g' cap' w3 hown3 hgr hfr; have HO3 : Hid (w3.ownsRow w.heap.size 9 1 (.slice (some ⟨g', 0, none⟩) (L.length + 1) cap') (L.length + 1) (strs L ++ [.string s])) := hown3; have HG3 : Hid ((w2.alloc (.cells #[.string s] 9)).grownBy w3 (Value.slice oa L.length oc).ownBlock) := hgr; clear hown3 hgr hfr))
                  go_roundw
                  case rel =>
                    have ho := HO3.out
                    rw [strs_snoc] at ho
                    refine ⟨i + 1, ByteArray.empty, L ++ [s], ins t p s, n + 1, by omega, by go_num, rfl, by intro c hc; simp at hc, by simp, (HB2.out.alloc (by omega) _).grown HG3.out (by simp; omega) (fun y e => HOW.out y e), ?_, by rw [List.length_append, List.length_singleton]; exact ho, HSM2.out, by rw [List.length_append, List.length_singleton]; omega⟩
                    have hxa : BxAt (w2.alloc (.cells #[.string s] 9)) bx (ins t p s) (n + 1) cur0 := HX2.out.below ((Below.refl _ _).alloc (Nat.le_refl _) _)
                    exact World.rowIs.of_block hxa (HG3.out.block bx (World.rowIs.lt hxa) (fun e => bx_own hxa hna e.symm rfl))
                  case measure => simp [intOf]; omega
        · have q3 : decide ((i : Int) < (len : Int)) = false := by simp; omega
          clear h hb hx hs hown hsm
          go_wp2_with fail
          go_loopw [11, 12] (fun th' k' wk => ∃ k q : Nat, k ≤ L.length ∧ th' = .bool (hasTo L s k) ∧ k' = .int .i64 (k : Int) ∧ wk = wr.drewN q) (fun _ k' _ => L.length - (intOf k').toNat)
          case atStart => exact ⟨0, 0, by omega, rfl, rfl, rfl⟩
          case round =>
            obtain ⟨k, q, hk, rfl, rfl, hwk⟩ := hrel
            rename World => wk
            have HWK : Hid (Below w.heap.size w wk ∧ BxAt wk bx t n cur0 ∧ wk.ownsRow w.heap.size 9 1 (.slice oa L.length oc) L.length (strs L)) := by
              unfold Hid
              rw [hwk]
              exact ⟨below_drewN HB.out q, HX.out, ownsRow_below HO.out (below_drewN (Below.refl _ _) q)⟩
            have HWQ : Hid (wk = wr.drewN q) := hwk
            clear hwk
            by_cases hkl : k < L.length
            · obtain ⟨g, rfl, hce⟩ := hsh (by omega)
              have cK : wk.cell? ⟨g, k, none⟩ = some (.string L[k]) := by
                rw [HWQ.out]
                exact (hce k (by omega)).trans (strs_get hkl)
              obtain ⟨lk, HLK⟩ : ∃ x, Hid (L[k] = x) := ⟨L[k], by unfold Hid; rfl⟩
              rw [HLK.out] at cK
              have qk : (k : Int) < (L.length : Int) := by omega
              have HNX : Hid (hasTo L s (k + 1) = (hasTo L s k || decide (lk = s))) := by
                unfold Hid
                rw [hasTo, List.getElem?_eq_getElem hkl, HLK.out]
                simp
              obtain ⟨bb, HBB⟩ : ∃ x, Hid (hasTo L s k = x) := ⟨_, rfl⟩
              rw [HBB.out] at HNX ⊢
              clear hsh hce
              cases bb with
              | true =>
                go_wp2_with fail
                go_roundw
                case rel => exact ⟨k + 1, _, by omega, by rw [HNX.out]; simp, by go_num, HWQ.out⟩
                case measure => simp [intOf]; omega
              | false =>
                by_cases elk : lk = s
                · have qe : (lk.toList == s.toList) = true := by rw [beq_str]; simp [elk]
                  have HEL : Hid (lk = s) := elk
                  clear elk
                  go_wp2_with fail
                  go_roundw
                  case rel => exact ⟨k + 1, _, by omega, by rw [HNX.out, HEL.out]; simp, by go_num, HWQ.out⟩
                  case measure => simp [intOf]; omega
                · have qe : (lk.toList == s.toList) = false := by rw [beq_str]; simp [elk]
                  go_wp2_with fail
                  go_roundw
                  case rel => exact ⟨k + 1, _, by omega, by rw [HNX.out]; simp [elk], by go_num, HWQ.out⟩
                  case measure => simp [intOf]; omega
            · have ek : k = L.length := by omega
              have qk : ¬ (k : Int) < (L.length : Int) := by omega
              obtain ⟨p, hp⟩ := exists_pl t s n
              have htu : tuneB s = true := by simp [tuneB, (textTo_isText s).2 HS.out]; omega
              have HADD := tadd_ok wk bx n t cur0 s p HWK.out.2.1 (by have := HSM.out.len; omega) (by unfold maxLen; omega) hp
              have hstd : (p < n ∧ t p = s) ↔ s ∈ L := by rw [HSM.out.mem s, hp.stands HSM.out.srt]
              have hsk := HWK.out.1.size
              subst ek
              cases hth : hasTo L s L.length with
              | true =>
                have hmem := (hasTo_all L s).1 hth
                have e1 : addOk t n s p = false := by simp [addOk, hstd.2 hmem]
                have e2 : addErr t n s p = 0 := by simp [addErr, htu, hstd.2 hmem]
                rw [addT, addN, e1, e2] at HADD
                clear hth hmem e1 e2 hstd hp htu hsh
                go_wp2_with (go_at_call 35; refine HADD.mono ?_; rintro e w2 ⟨rfl, hx2, ht2⟩; have HX2 : Hid (BxAt w2 bx t n cur0) := hx2; have HT2 : Hid (Touch (fun j => j = bx) wk w2) := ht2; clear hx2 ht2)
                go_roundw
                case rel =>
                  have hbk := HWK.out.1
                  refine ⟨i + 1, ByteArray.empty, L, t, n, by omega, by go_num, rfl, by intro c hc; simp at hc, by simp, HT2.out.below hbk (by omega) (fun j e => by omega), HX2.out, HT2.out.own HWK.out.2.2 (fun g e hg => bx_own HWK.out.2.1 HWK.out.2.2 e hg), HSM.out, by omega⟩
                case measure => simp [intOf]; omega
              | false =>
                have hmem : s ∉ L := fun hh => by rw [(hasTo_all L s).2 hh] at hth; cases hth
                have hns : ¬ (p < n ∧ t p = s) := fun hh => hmem (hstd.1 hh)
                have h60 : n < 60 := by have := HSM.out.len; omega
                have e1 : addOk t n s p = true := by simp only [addOk, htu, hns, h60, decide_false, decide_true, Bool.not_false, Bool.and_self]
                have e2 : addErr t n s p = 0 := by simp only [addErr, htu, hns, h60, if_true, if_false]
                rw [addT, addN, e1, e2] at HADD
                have HSM2 : Hid (SameT (L ++ [s]) (ins t p s) (n + 1)) := HSM.out.add hmem htu hp
                have HNA : ∀ w2, Touch (fun j => j = bx) wk w2 → (w2.alloc (.cells #[.string s] 9)).ownsRow w.heap.size 9 1 (.slice oa L.length oc) L.length (strs L) ∧ Below w.heap.size w w2 ∧ w.heap.size ≤ w2.heap.size := fun w2 ht => by
                  have hb2 : Below w.heap.size w w2 := ht.below HWK.out.1 (by omega) (fun j e => by omega)
                  exact ⟨(ht.own HWK.out.2.2 (fun g e hg => bx_own HWK.out.2.1 HWK.out.2.2 e hg)).alloc _, hb2, hb2.size⟩
                have HOW : Hid (∀ y, (Value.slice oa L.length oc).ownBlock = some y → w.heap.size ≤ y) := fun y e => (HWK.out.2.2.lt y e).1
                clear hth hmem e1 e2 hstd hp htu hsh hns h60
                go_wp2_with (first
                  | (go_at_call 35; refine HADD.mono ?_; rintro e w2 ⟨rfl, hx2, ht2⟩; obtain ⟨hna, hb2, hs2⟩ := HNA w2 ht2; have HX2 : Hid (BxAt w2 bx (ins t p s) (n + 1) cur0) := hx2; have HB2 : Hid (Below w.heap.size w w2) := hb2; clear hx2 ht2 hb2 HNA)
                  | (at_builtin; refine wpList_append_fresh _ rfl _ _ 39 rfl w.heap.size 9 i0 (.string ByteArray.empty) 1 16 Try.underlying39 hi0 hz0 hz01 hz02 rfl (by decide) _ L.length (strs L) rfl hna ⟨w2.heap.size, 0, none⟩ 1 1 [.string s] rfl rfl (cell_one_new _ _ _) (by intro u hu; simp at hu; subst hu; rfl) (by decide) (by unfold maxLen; omega) (by omega) (by simp; omega) ?_; intro g' cap' w3 hown3 hgr hfr; have HO3 : Hid (w3.ownsRow w.heap.size 9 1 (.slice (some ⟨g', 0, none⟩) (L.length + 1) cap') (L.length + 1) (strs L ++ [.string s])) := hown3; have HG3 : Hid ((w2.alloc (.cells #[.string s] 9)).grownBy w3 (Value.slice oa L.length oc).ownBlock) := hgr; clear hown3 hgr hfr))
                go_roundw
                case rel =>
                  have ho := HO3.out
                  rw [strs_snoc] at ho
                  refine ⟨i + 1, ByteArray.empty, L ++ [s], ins t p s, n + 1, by omega, by go_num, rfl, by intro c hc; simp at hc, by simp, (HB2.out.alloc (by omega) _).grown HG3.out (by simp; omega) (fun y e => HOW.out y e), ?_, by rw [List.length_append, List.length_singleton]; exact ho, HSM2.out, by rw [List.length_append, List.length_singleton]; omega⟩
                  have hxa : BxAt (w2.alloc (.cells #[.string s] 9)) bx (ins t p s) (n + 1) cur0 := HX2.out.below ((Below.refl _ _).alloc (Nat.le_refl _) _)
                  exact World.rowIs.of_block hxa (HG3.out.block bx (World.rowIs.lt hxa) (fun e => bx_own hxa hna e.symm rfl))
                case measure => simp [intOf]; omega
      · have q1 : (i : Int) ≤ (len : Int) := by omega
        have q2 : decide ((L.length : Int) < 20) = false := by simp; omega
        clear h hb hx hs hown hsm hsh
        go_wp2_with fail
        go_ret3
        exact ⟨HB.out, bx, _, L, t, n, rfl, hbx, HX.out, HO.out, HSM.out, hL⟩
    · have q1 : decide ((i : Int) ≤ (len : Int)) = false := by simp; omega
      clear h hb hx hs hown hsm hsh
      go_wp2_with fail
      go_ret3
      exact ⟨HB.out, bx, _, L, t, n, rfl, hbx, HX.out, HO.out, HSM.out, hL⟩
end Go.Proofs.Ytpngikmcjkjdaab

namespace Go.Proofs.Ytpngikmcjkjdaab
open Go.RowKit
set_option linter.unusedVariables false
def atN (len : Nat) (z : Nat → Int) (i : Nat) : Int := if i < len then z i else 0
theorem atN_rng {w : World} {ao : Option Addr} {len : Nat} {z : Nat → Int} (h : CodeAt w ao len z) (i : Nat) : -9223372036854775808 ≤ atN len z i ∧ atN len z i ≤ 9223372036854775807 := by
  unfold atN; split
  · exact h.rng i ‹_›
  · omega
set_option maxRecDepth 20000 in
set_option maxHeartbeats 400000 in
theorem at_ok (ao : Option Addr) (len cap : Nat) (z : Nat → Int) (i : Int) (w : World) (h : CodeAt w ao len z) (hi : 0 ≤ i) :
    Calls Try.prog 18 #[.slice ao len cap, .int .i64 i] w fun e w' => e = .returned (.int .i64 (atN len z i.toNat)) ∧ w' = w := by
  obtain ⟨k, rfl⟩ := Int.eq_ofNat_of_zero_le hi
  rw [Int.toNat_natCast]
  have hl := h.ln
  by_cases hlt : k < len
  · obtain ⟨b, o, rfl, hc⟩ := h.cell k hlt
    have e : atN len z k = z k := if_pos hlt
    rw [e]
    clear h e
    go_enter Try.func18, Try.ntmps18
    go_wp2
    go_ret
    exact ⟨rfl, rfl⟩
  · have e : atN len z k = 0 := if_neg hlt
    rw [e]
    clear h e
    go_enter Try.func18, Try.ntmps18
    go_wp2
    go_ret
    exact ⟨rfl, rfl⟩
end Go.Proofs.Ytpngikmcjkjdaab

namespace Go.Proofs.Ytpngikmcjkjdaab
open Go.RowKit
set_option linter.unusedVariables false
set_option linter.unusedSimpArgs false
theorem oneCell_strs (l : List ByteArray) : ∀ u ∈ strs l, u.oneCell' = true := by
  intro u hu
  obtain ⟨s, _, rfl⟩ := List.mem_map.1 hu
  rfl
theorem strs_app (a b : List ByteArray) : strs a ++ strs b = strs (a ++ b) := by simp [strs]
theorem take_more (W : List ByteArray) (g l : Nat) : W.take g ++ (W.drop g).take l = W.take (g + l) := (List.take_add (l := W)).symm
theorem own_from {w : World} {base base' e s n : Nat} {v : Value} {x : List Value} (h : w.ownsRow base e s v n x) (hb : base' ≤ base) : w.ownsRow base' e s v n x := by
  refine ⟨h.1, ?_⟩
  rcases h.2 with h2 | ⟨g, cap, cur, h3, h4, h5⟩
  · exact .inl h2
  · exact .inr ⟨g, cap, cur, h3, Nat.le_trans hb h4, h5⟩
structure DrawI (w1 wr : World) (bx n g : Nat) (t : Nat → ByteArray) (U : Lay) (M : Tab) (W : List ByteArray) (v : Value) : Prop where
  bk : BxAt wr bx t n (cuv (curG U M W g))
  row : wr.ownsRow w1.heap.size 9 1 v g (strs (W.take g))
  tch : Touch (fun j => j = bx) w1 wr
theorem code_touch {w w' : World} {ao : Option Addr} {len bx : Nat} {z : Nat → Int} (h : CodeAt w ao len z) (hT : Touch (fun j => j = bx) w w') (hne : 0 < len → ∀ b, ao = some b → b.block ≠ bx) : CodeAt w' ao len z :=
  ⟨h.ln, fun t ht => by
    obtain ⟨b, o, e, hc⟩ := h.cell t ht
    refine ⟨b, o, e, ?_⟩
    have hk := hT.block b (lt_of_cell hc) (hne (by omega) _ e)
    simp only [World.cell?] at hc ⊢
    rw [hk]; exact hc, h.rng⟩
theorem DrawI.page {w1 wr w2 : World} {bx n g : Nat} {t : Nat → ByteArray} {U : Lay} {M : Tab} {W : List ByteArray} {v : Value} (h : DrawI w1 wr bx n g t U M W v) (hT : Touch (fun j => j = bx) wr w2) :
    w2.ownsRow w1.heap.size 9 1 v g (strs (W.take g)) ∧ Touch (fun j => j = bx) w1 w2 ∧ w1.heap.size ≤ w2.heap.size :=
  ⟨hT.own h.row (fun g e hg => bx_own h.bk h.row e hg), touch_then' h.tch hT, Nat.le_trans h.tch.size hT.size⟩
theorem DrawI.more {w1 w2 w3 : World} {bx n g m l : Nat} {t : Nat → ByteArray} {U : Lay} {M : Tab} {W : List ByteArray} {v v' : Value} (hx : BxAt w2 bx t n (cuv (curG U M W (g + m)))) (hl : min l (W.length - g) = m)
    (h2 : w2.ownsRow w1.heap.size 9 1 v g (strs (W.take g))) (h3 : Touch (fun j => j = bx) w1 w2) (ho : w3.ownsRow w1.heap.size 9 1 v' (g + m) (strs (W.take g) ++ strs ((W.drop g).take l))) (hG : w2.grownBy w3 v.ownBlock) : DrawI w1 w3 bx n (g + m) t U M W v' := by
  refine ⟨World.rowIs.of_block hx (hG.block bx (World.rowIs.lt hx) (fun e => bx_own hx h2 e.symm rfl)), ?_, h3.grown hG (fun k e => .inr (h2.lt k e).1)⟩
  have e : W.take g ++ (W.drop g).take l = W.take (g + m) := by
    rw [take_more]
    by_cases hc : l ≤ W.length - g
    · rw [show m = l by omega]
    · rw [List.take_of_length_le (show W.length ≤ g + l by omega), List.take_of_length_le (show W.length ≤ g + m by omega)]
  rw [strs_app, e] at ho
  exact ho
theorem next_page {wr : World} {bx n g l : Nat} {t : Nat → ByteArray} {U : Lay} {M : Tab} {W : List ByteArray} (hW : allW M t n = W) (h : BxAt wr bx t n (cuv (curG U M W g))) (hs : SrtB t n) (hn : n ≤ 60) (htu : ∀ i, i < n → tuneB (t i) = true) (hM : M.Ok) (hT : TabAt wr U M) (hg : g ≤ W.length) (hl1 : 1 ≤ l) (hl : l ≤ 50) :
    Calls Try.prog 34 #[.pointer (some ⟨bx, 0, none⟩), .int .i64 0, .int .i64 (l : Int)] wr fun e w' => ∃ v, e = .returned (.tuple #[v, .bool (decide (W.length - g ≤ l)), .int .i64 0]) ∧ w'.ownsRow wr.heap.size 9 1 v (min l (W.length - g)) (strs ((W.drop g).take l)) ∧ BxAt w' bx t n (cuv (curG U M W (g + min l (W.length - g)))) ∧ Touch (fun j => j = bx) wr w' := by
  subst hW
  obtain ⟨h1, h2, h3⟩ := cuG_parts U M (allW M t n) g
  have H := tnext_ok wr bx n 0 l t (curG U M (allW M t n) g) U M h hn (by omega) h1 hl1 hl htu h2 h3 hM hT
  have e0 : curG U M (allW M t n) g 0 = cuG U M (allW M t n) g := rfl
  obtain ⟨c1, c2⟩ := choose_behind (U := U) (M := M) (l := l) hs hg
  rw [e0, c1, c2, next_behind U M _ hg] at H
  rw [show (((allW M t n).drop g).take l).length = min l ((allW M t n).length - g) by rw [List.length_take, List.length_drop]] at H
  exact H
theorem next_shut {wr : World} {bx n : Nat} {t : Nat → ByteArray} (l : Int) (h : BxAt wr bx t n cur0) :
    Calls Try.prog 34 #[.pointer (some ⟨bx, 0, none⟩), .int .i64 0, .int .i64 l] wr fun e w' => e = .returned (.tuple #[.slice none 0 0, .bool false, .int .i64 10]) ∧ w' = wr := by
  rw [← cuv_shut] at h
  have e1 : opB (fun _ => shut) 0 = false := by
    have := opB_at (fun _ => shut) (k := 0) (by omega)
    rw [show ((0 : Nat) : Int) = 0 from rfl] at this
    rw [this]; rfl
  have e : nextErr (fun _ => shut) 0 l = 10 := by unfold nextErr; rw [e1]; rfl
  have H := tnext_no wr bx n t (fun _ => shut) 0 l h (by rw [e]; decide)
  rw [e] at H
  exact H
theorem close_page {wr : World} {bx n g : Nat} {t : Nat → ByteArray} {U : Lay} {M : Tab} {W : List ByteArray} (h : BxAt wr bx t n (cuv (curG U M W g))) :
    Calls Try.prog 47 #[.pointer (some ⟨bx, 0, none⟩), .int .i64 0] wr fun e w' => e = .returned (.int .i64 0) ∧ BxAt w' bx t n cur0 ∧ Touch (fun j => j = bx) wr w' := by
  have H := tclose_ok wr bx n t _ 0 h
  have e : closeErr (curG U M W g) 0 = 0 := by
    have := opB_at (curG U M W g) (k := 0) (by omega)
    rw [show ((0 : Nat) : Int) = 0 from rfl] at this
    unfold closeErr
    rw [this]
    show (if (cuG U M W g).op = true then _ else _) = _
    rw [(cuG_parts U M W g).1]; rfl
  rw [e, close_behind, cuv_shut] at H
  exact H
theorem open_page {w : World} {bx n : Nat} {t : Nat → ByteArray} {V : Lay} {M : Tab} (W : List ByteArray) (hM : M.Ok) (hV : TabAt w V M) (h : BxAt w bx t n cur0) :
    Calls Try.prog 33 #[.pointer (some ⟨bx, 0, none⟩), .agg #[.slice (some ⟨V.ba, V.oa, none⟩) M.n V.ca, .slice (some ⟨V.bn, V.on, none⟩) M.n V.cn]] w
      fun e w' => ∃ U : Lay, e = .returned (.tuple #[.int .i64 0, .int .i64 0]) ∧ TabAt w' U M ∧ U.From w.heap.size M.n ∧ BxAt w' bx t n (cuv (curG U M W 0)) ∧ Touch (fun k => k = bx) w w' := by
  rw [← cuv_shut] at h
  exact topen_ok V M w bx n t (fun _ => shut) hM hV h (by decide)
set_option maxRecDepth 20000 in
set_option maxHeartbeats 4000000 in
theorem drawn_ok (V : Lay) (M : Tab) (w : World) (bx n : Nat) (t : Nat → ByteArray) (ao : Option Addr) (len cap : Nat) (z : Nat → Int) (hz : CodeAt w ao len z) (hM : M.Ok) (hV : TabAt w V M) (h : BxAt w bx t n cur0) (hs : SrtB t n) (hn : n ≤ 60) (htu : ∀ i, i < n → tuneB (t i) = true) (hne : 0 < len → ∀ b, ao = some b → b.block ≠ bx) :
    Calls Try.prog 32 #[.pointer (some ⟨bx, 0, none⟩), .agg #[.slice (some ⟨V.ba, V.oa, none⟩) M.n V.ca, .slice (some ⟨V.bn, V.on, none⟩) M.n V.cn], .slice ao len cap] w
      fun e w' => ∃ v, e = .returned (.tuple #[v, .bool true]) ∧ w'.ownsRow w.heap.size 9 1 v (allW M t n).length (strs (allW M t n)) ∧ BxAt w' bx t n cur0 ∧ Touch (fun j => j = bx) w w' := by
  obtain ⟨i0, hi0, hz0, hz01, hz02⟩ := info_parts Try.infoStr
  obtain ⟨W, HW⟩ : ∃ W, Hid (allW M t n = W) := ⟨_, rfl⟩
  rw [HW.out]
  have hWn : W.length ≤ n := by
    rw [← HW.out, allW, wantL_filter]
    refine Nat.le_trans (List.length_filter_le _ _) ?_
    simp
  have hbx : bx < w.heap.size := World.rowIs.lt h
  obtain ⟨W1, hW1⟩ : ∃ W', W' = w.alloc (.cells #[.slice (some ⟨V.ba, V.oa, none⟩) M.n V.ca, .slice (some ⟨V.bn, V.on, none⟩) M.n V.cn] 30) := ⟨_, rfl⟩
  have B1 : Below w.heap.size w W1 := by rw [hW1]; exact (Below.refl _ _).alloc (Nat.le_refl _) _
  have hk1 : W1.heap[w.heap.size]? = some (.cells #[.slice (some ⟨V.ba, V.oa, none⟩) M.n V.ca, .slice (some ⟨V.bn, V.on, none⟩) M.n V.cn] 30 (0, 0)) := by rw [hW1]; exact heap_at_new (by simp)
  obtain ⟨y0, y1, _, _⟩ := cell_two hk1
  have hs1 : w.heap.size < W1.heap.size := heap_lt hk1
  have HOP := open_page W hM (hV.below B1) (h.below B1)
  have HZ : Hid (CodeAt w ao len z) := hz
  have HH : Hid (M.Ok ∧ SrtB t n ∧ ∀ i, i < n → tuneB (t i) = true) := ⟨hM, hs, htu⟩
  clear h hV hM hs htu hz
  go_enter Try.func32, Try.ntmps32
  go_wp2_with fail
  rw [← hW1]
  clear hW1 hk1
  refine HOP.mono ?_
  rintro e w1 ⟨U, rfl, hU, hUF, hx, hT⟩
  have HU : Hid (U.From w.heap.size M.n) := hUF.mono (by omega)
  have HX1 : Hid (DrawI w1 w1 bx n 0 t U M W (.slice none 0 0)) := ⟨hx, World.ownsRow_nil _ _ _ _, Touch.refl _ _⟩
  have HT1 : Hid (Touch (fun j => j = bx) w w1 ∧ TabAt w1 U M) := ⟨touch_then' (touch_of_below' B1) hT, hU⟩
  have hw1 : w.heap.size ≤ w1.heap.size := HT1.out.1.size
  clear hU hx hT hUF HOP y0 y1
  go_wp2_with fail
  go_loopw [10, 11] (fun v i' wr => ∃ i g : Nat, i ≤ g ∧ g ≤ W.length ∧ i' = .int .i64 (i : Int) ∧ Hid (DrawI w1 wr bx n g t U M W v)) (fun _ i' _ => 61 - (intOf i').toNat)
  case atStart => exact ⟨0, 0, by omega, by omega, rfl, HX1⟩
  case round =>
    clear HX1
    obtain ⟨i, g, hig, hgW, rfl, HD⟩ := hrel
    have hrow := HD.out.row
    obtain ⟨oa, oc, hv, _⟩ := ownsRow_shape hrow
    subst hv
    clear hrow
    have r0 := atN_rng HZ.out i
    obtain ⟨zi, HZI⟩ : ∃ x, Hid (atN len z i = x) := ⟨_, rfl⟩
    rw [HZI.out] at r0
    obtain ⟨p, HP⟩ : ∃ x, Hid (pickN zi 7 = x) := ⟨_, rfl⟩
    have hp : p < 7 := by rw [← HP.out]; exact pickN_lt _ _ (by omega)
    have hAT := at_ok ao len cap z (i : Int) wr (code_touch HZ.out (touch_then' HT1.out.1 HD.out.tch) hne) (by omega)
    rw [show ((i : Nat) : Int).toNat = i by omega, HZI.out] at hAT
    have hPK := pick_any zi 7 wr (by omega) (by omega) r0.1 r0.2
    rw [show (7 : Int).toNat = 7 from rfl, HP.out] at hPK
    have hNX := next_page (l := 1 + p) HW.out HD.out.bk HH.out.2.1 hn HH.out.2.2 HH.out.1 (HT1.out.2.touch1 HU.out HD.out.tch hbx) hgW (by omega) (by omega)
    rw [show (((1 + p : Nat)) : Int) = 1 + (p : Int) by omega] at hNX
    obtain ⟨m, hm⟩ : ∃ m, min (1 + p) (W.length - g) = m := ⟨_, rfl⟩
    rw [hm] at hNX
    have q1 : decide ((i : Int) ≤ 60) = true := by simp; omega
    have hwr := HD.out.tch.size
    by_cases hd : W.length - g ≤ 1 + p
    · have hgm : g + m = W.length := by omega
      rw [decide_eq_true hd] at hNX
      clear hd
      go_wp2_with fail
      refine hAT.mono ?_
      rintro e w' ⟨rfl, hw'⟩
      obtain rfl : wr = w' := hw'.symm
      clear hAT
      go_wp2_with fail
      refine hPK.mono ?_
      rintro e w' ⟨rfl, hw'⟩
      obtain rfl : wr = w' := hw'.symm
      clear hPK
      go_wp2_with fail
      refine hNX.mono ?_
      rintro e w2 ⟨v, rfl, hov, hx2, ht2⟩
      clear hNX
      obtain ⟨hrow2, hT2, hs2⟩ := HD.out.page ht2
      obtain ⟨ov, cv, hv, _⟩ := ownsRow_shape hov
      subst hv
      have HX2 : Hid (BxAt w2 bx t n (cuv (curG U M W (g + m))) ∧ Touch (fun j => j = bx) w1 w2) := ⟨hx2, hT2⟩
      clear hx2 hT2 ht2
      go_wp2_with (at_builtin; refine wpList_app_list _ rfl _ _ 39 rfl w1.heap.size wr.heap.size 9 i0 (.string ByteArray.empty) 16 Try.underlying39 hi0 hz0 hz01 hz02 rfl _ g (strs (W.take g)) rfl hrow2 _ m (strs ((W.drop g).take (1 + p))) rfl hov (oneCell_strs _) (by unfold maxLen; omega) (by omega) hs2 ?_; intro v' w3 hown3 hgr; have HD3 : Hid (DrawI w1 w3 bx n (g + m) t U M W v') := DrawI.more HX2.out.1 hm hrow2 HX2.out.2 hown3 hgr; clear hown3 hgr hrow2 hov)
      all_goals
        have hNX2 := next_page (l := 1 + p) HW.out HD3.out.bk HH.out.2.1 hn HH.out.2.2 HH.out.1 (HT1.out.2.touch1 HU.out HD3.out.tch hbx) (by omega) (by omega) (by omega)
        rw [show (((1 + p : Nat)) : Int) = 1 + (p : Int) by omega, show min (1 + p) (W.length - (g + m)) = 0 by omega, show decide (W.length - (g + m) ≤ 1 + p) = true by simp; omega, Nat.add_zero] at hNX2
        refine hNX2.mono ?_
        clear hNX2
        rintro e w4 ⟨v4, rfl, hov4, hx4, ht4⟩
        obtain ⟨ov4, cv4, hv4, _⟩ := ownsRow_shape hov4
        subst hv4
        clear hov4
        have HC := close_page hx4
        obtain ⟨hrow4, hT4, hs4⟩ := HD3.out.page ht4
        have HX4 : Hid (w4.ownsRow w1.heap.size 9 1 v' (g + m) (strs (W.take (g + m))) ∧ Touch (fun j => j = bx) w1 w4 ∧ BxAt w4 bx t n (cuv (curG U M W (g + m)))) := ⟨hrow4, hT4, hx4⟩
        clear hrow4 hT4 hx4 ht4
        go_wp2_with fail
        refine HC.mono ?_
        clear HC
        rintro e w5 ⟨rfl, hx5, ht5⟩
        have HN5 := next_shut (1 + (p : Int)) hx5
        have HX5 : Hid (BxAt w5 bx t n cur0 ∧ Touch (fun j => j = bx) w4 w5) := ⟨hx5, ht5⟩
        clear hx5 ht5
        go_wp2_with fail
        refine HN5.mono ?_
        clear HN5
        rintro e w6 ⟨rfl, hw6⟩
        obtain rfl : w5 = w6 := hw6.symm
        go_wp2_with fail
        go_ret2
        have hW' : W.take (g + m) = W := by rw [hgm]; exact List.take_length
        have ho := HX4.out.1
        rw [hW', hgm] at ho
        exact ⟨v', rfl, own_from (HX5.out.2.own ho (fun g e hg => bx_own HX4.out.2.2 ho e hg)) hw1, HX5.out.1, touch_then' HT1.out.1 (touch_then' HX4.out.2.1 HX5.out.2)⟩
    · have HEM : Hid (m = 1 + p) := by unfold Hid; omega
      rw [decide_eq_false hd] at hNX
      have q5 : decide ((m : Int) < 1 + (p : Int)) = false := by simp; omega
      have q6 : decide ((m : Int) > 1 + (p : Int)) = false := by simp; omega
      clear hd
      go_wp2_with fail
      refine hAT.mono ?_
      rintro e w' ⟨rfl, hw'⟩
      obtain rfl : wr = w' := hw'.symm
      clear hAT
      go_wp2_with fail
      refine hPK.mono ?_
      rintro e w' ⟨rfl, hw'⟩
      obtain rfl : wr = w' := hw'.symm
      clear hPK
      go_wp2_with fail
      refine hNX.mono ?_
      rintro e w2 ⟨v, rfl, hov, hx2, ht2⟩
      clear hNX
      obtain ⟨hrow2, hT2, hs2⟩ := HD.out.page ht2
      obtain ⟨ov, cv, hv, _⟩ := ownsRow_shape hov
      subst hv
      have HX2 : Hid (BxAt w2 bx t n (cuv (curG U M W (g + m))) ∧ Touch (fun j => j = bx) w1 w2) := ⟨hx2, hT2⟩
      clear hx2 hT2 ht2
      go_wp2_with (at_builtin; refine wpList_app_list _ rfl _ _ 39 rfl w1.heap.size wr.heap.size 9 i0 (.string ByteArray.empty) 16 Try.underlying39 hi0 hz0 hz01 hz02 rfl _ g (strs (W.take g)) rfl hrow2 _ m (strs ((W.drop g).take (1 + p))) rfl hov (oneCell_strs _) (by unfold maxLen; omega) (by omega) hs2 ?_; intro v' w3 hown3 hgr; have HD3 : Hid (DrawI w1 w3 bx n (g + m) t U M W v') := DrawI.more HX2.out.1 hm hrow2 HX2.out.2 hown3 hgr; clear hown3 hgr hrow2 hov)
      go_roundw
      case rel => exact ⟨i + 1, g + m, by have := HEM.out; omega, by omega, by go_num, HD3⟩
      case measure => simp [intOf]; omega
end Go.Proofs.Ytpngikmcjkjdaab
