import Derived.Test.YtpngikmcjkjdaabKnotL
import Derived.Test.YtpngikmcjkjdaabCode
import Derived.Test.YtpngikmcjkjdaabConv
namespace Go.Proofs.Ytpngikmcjkjdaab
open Go.RowKit
set_option linter.unusedVariables false
set_option linter.unusedSimpArgs false

/-- The tunes of a list, and the same in the order. -/
structure SameT (L : List ByteArray) (t : Nat → ByteArray) (n : Nat) : Prop where
  srt : SrtB t n
  len : L.length = n
  mem : ∀ s, s ∈ L ↔ ∃ j, j < n ∧ t j = s
  tun : ∀ s ∈ L, tuneB s = true
  nd : L.Nodup
theorem SameT.add {L : List ByteArray} {t : Nat → ByteArray} {n p : Nat} {s : ByteArray} (h : SameT L t n) (hs : s ∉ L) (ht : tuneB s = true) (hp : IsPl t n s p) : SameT (L ++ [s]) (ins t p s) (n + 1) := by
  have hle := hp.le
  refine ⟨hp.ins_srt h.srt (fun hst => hs ((h.mem s).2 ⟨p, hst⟩)), by simp [h.len], fun u => ?_, fun u hu => ?_, ?_⟩
  · rw [List.mem_append, h.mem, List.mem_singleton]
    constructor
    · rintro (⟨j, hj, e⟩ | rfl)
      · by_cases hjp : j < p
        · exact ⟨j, by omega, by unfold ins; rw [if_pos hjp]; exact e⟩
        · exact ⟨j + 1, by omega, by unfold ins; rw [if_neg (by omega), if_neg (by omega), Nat.add_sub_cancel]; exact e⟩
      · exact ⟨p, by omega, by unfold ins; rw [if_neg (by omega), if_pos rfl]⟩
    · rintro ⟨j, hj, e⟩
      unfold ins at e
      by_cases hjp : j < p
      · rw [if_pos hjp] at e; exact .inl ⟨j, by omega, e⟩
      · rw [if_neg hjp] at e
        by_cases hje : j = p
        · rw [if_pos hje] at e; exact .inr e.symm
        · rw [if_neg hje] at e; exact .inl ⟨j - 1, by omega, e⟩
  · rw [List.mem_append, List.mem_singleton] at hu
    rcases hu with hu | rfl
    · exact h.tun u hu
    · exact ht
  · rw [List.nodup_append]
    refine ⟨h.nd, by simp, fun a ha b hb => ?_⟩
    rw [List.mem_singleton] at hb
    subst hb
    rintro rfl
    exact hs ha
/-- Is it among the first k? -/
def hasTo (L : List ByteArray) (s : ByteArray) : Nat → Bool
  | 0 => false
  | k + 1 => hasTo L s k || decide (L[k]? = some s)
theorem hasTo_iff (L : List ByteArray) (s : ByteArray) : ∀ k, hasTo L s k = true ↔ ∃ j, j < k ∧ L[j]? = some s
  | 0 => by simp [hasTo]
  | k + 1 => by
    simp only [hasTo, Bool.or_eq_true, hasTo_iff L s k, decide_eq_true_eq]
    constructor
    · rintro (⟨j, hj, e⟩ | e)
      · exact ⟨j, by omega, e⟩
      · exact ⟨k, by omega, e⟩
    · rintro ⟨j, hj, e⟩
      by_cases h : j = k
      · subst h; exact .inr e
      · exact .inl ⟨j, by omega, e⟩
theorem hasTo_all (L : List ByteArray) (s : ByteArray) : hasTo L s L.length = true ↔ s ∈ L := by
  rw [hasTo_iff, List.mem_iff_getElem?]
  constructor
  · rintro ⟨j, _, e⟩; exact ⟨j, e⟩
  · rintro ⟨j, e⟩
    exact ⟨j, (List.getElem?_eq_some_iff.1 e).1, e⟩
theorem bx_own {w : World} {bx n base m g : Nat} {t : Nat → ByteArray} {cx : Nat → Value} {v : Value} {x : List Value} (h : BxAt w bx t n cx) (ho : w.ownsRow base 9 1 v m x) (hg : v.ownBlock = some g) : g ≠ bx := by
  rintro rfl
  obtain ⟨c, hb, _⟩ := h
  rcases ho.2 with ⟨rfl, _⟩ | ⟨g', cap, cur, rfl, _, h2, _⟩
  · simp [Value.ownBlock] at hg
  · simp only [Value.ownBlock, Option.some.injEq] at hg
    subst hg
    rw [hb] at h2
    injection h2 with h2
    injection h2 with _ h2
    exact absurd h2 (by decide)

set_option maxRecDepth 20000 in
set_option maxHeartbeats 8000000 in
theorem book_ok (ao : Option Addr) (len cap most : Nat) (z : Nat → Int) (w : World) (h : CodeAt w ao len z) (hlen : len ≤ 140737488355328) (hm : most ≤ 12) :
    Calls Try.prog 24 #[.slice ao len cap, .int .i64 (most : Int)] w fun e w' => Below w.heap.size w w' ∧ ∃ bx v L t n, e = .returned (.tuple #[.pointer (some ⟨bx, 0, none⟩), v, .bool true]) ∧ w.heap.size ≤ bx ∧ BxAt w' bx t n cur0 ∧ w'.ownsRow w.heap.size 9 1 v L.length (strs L) ∧ SameT L t n ∧ L.length ≤ 20 := by
  obtain ⟨i0, hi0, hz0, hz01, hz02⟩ := info_parts Try.infoS
  have HNEW := tnew_ok w (fun _ => ByteArray.empty)
  go_enter Try.func24, Try.ntmps24
  go_wp2_with (go_at_call 43; refine HNEW.mono ?_; rintro e w1 ⟨hb1, bx, rfl, hbx, hx⟩; have HB1 : Hid (Below w.heap.size w w1) := hb1; have HX1 : Hid (BxAt w1 bx (fun _ => ByteArray.empty) 0 cur0) := hx; clear hb1 hx)
  go_loopw [8, 9, 10] (fun v s' i' wr => ∃ (i : Nat) (s : ByteArray) (L : List ByteArray) (t : Nat → ByteArray) (n : Nat), i ≤ len + 1 ∧ i' = .int .i64 (i : Int) ∧ s' = .string s ∧ IsText s ∧ s.size ≤ most ∧ Below w.heap.size w wr ∧ BxAt wr bx t n cur0 ∧ wr.ownsRow w.heap.size 9 1 v L.length (strs L) ∧ SameT L t n ∧ L.length ≤ 20) (fun _ _ i' _ => len + 1 - (intOf i').toNat)
  case atStart => exact ⟨0, ByteArray.empty, [], fun _ => ByteArray.empty, 0, by omega, rfl, rfl, by intro c hc; simp at hc, by simp, HB1.out, HX1.out, World.ownsRow_nil _ _ _ _, ⟨fun i j _ hj => absurd hj (by omega), rfl, fun s => by simp, fun s hs => by simp at hs, List.nodup_nil⟩, by simp⟩
  case round =>
    obtain ⟨i, s, L, t, n, hi, rfl, rfl, hs, hsz, hb, hx, hown, hsm, hL⟩ := hrel
    obtain ⟨oa, oc, hv, hsh⟩ := ownsRow_shape hown
    subst hv
    have hbs := hb.size
    have HB : Hid (Below w.heap.size w wr) := hb
    have HX : Hid (BxAt wr bx t n cur0) := hx
    have HS : Hid (IsText s) := hs
    have HSM : Hid (SameT L t n) := hsm
    have HO : Hid (wr.ownsRow w.heap.size 9 1 (.slice oa L.length oc) L.length (strs L)) := hown
    by_cases hil : i ≤ len
    · by_cases hl20 : L.length < 20
      · have q1 : (i : Int) ≤ (len : Int) := by omega
        have q2 : (L.length : Int) < 20 := by omega
        by_cases a1 : i < len
        · obtain ⟨b, o, rfl, hc⟩ := (h.below hb).cell i a1
          have hr := h.rng i a1
          have q3 : (i : Int) < (len : Int) := by omega
          by_cases a2 : (z i).tmod 9 ≠ 0
          · have q4 : ((z i).tmod 9 != 0) = true := by simp [a2]
            by_cases a3 : s.size < most
            · obtain ⟨pv, HPV⟩ : ∃ x, Hid (pickN (z i) 8 = x) := ⟨_, rfl⟩
              have hpv : pv < 8 := by rw [← HPV.out]; exact pickN_lt _ _ (by omega)
              have q5 : (s.size : Int) < (most : Int) := by omega
              have hss : s.size ≤ 12 := by omega
              clear h hb hx hs hown hsm hsh a2
              go_wp2_with fail
              refine (pick_any (z i) 8 _ (by omega) (by omega) hr.1 hr.2).mono ?_
              rw [show (8 : Int).toNat = 8 from rfl, HPV.out]
              rintro e w' ⟨rfl, hw'⟩
              obtain rfl : wr = w' := hw'.symm
              have hcv := conv_note pv hpv
              go_wp2_with fail
              go_roundw
              case rel =>
                refine ⟨i + 1, s ++ ⟨#[noteB pv]⟩, L, t, n, by omega, by go_num, rfl, isText_push _ _ HS.out (isText_note pv hpv), ?_, HB.out.alloc (by omega) _, HX.out.below ((Below.refl _ _).alloc (Nat.le_refl _) _), ownsRow_below HO.out ((Below.refl _ _).alloc (Nat.le_refl _) _), HSM.out, by omega⟩
                rw [ByteArray.size_append]
                show s.size + 1 ≤ most
                omega
              case measure => simp [intOf]; omega
            · have q5 : decide ((s.size : Int) < (most : Int)) = false := by simp; omega
              clear h hb hx hs hown hsm a2
              go_wp2_with fail
              go_loopw [11, 12] (fun th' k' wk => ∃ k q : Nat, k ≤ L.length ∧ th' = .bool (hasTo L s k) ∧ k' = .int .i64 (k : Int) ∧ wk = wr.drewN q) (fun _ k' _ => L.length - (intOf k').toNat)
              case atStart => exact ⟨0, 0, by omega, rfl, rfl, rfl⟩
              case round =>
                obtain ⟨k, q, hk, rfl, rfl, hwk⟩ := hrel
                rename World => wk
                have HWK : Hid (Below w.heap.size w wk ∧ BxAt wk bx t n cur0 ∧ wk.ownsRow w.heap.size 9 1 (.slice oa L.length oc) L.length (strs L)) := by
                  unfold Hid
                  rw [hwk]
                  exact ⟨below_drewN HB.out q, HX.out, ownsRow_below HO.out (below_drewN (Below.refl _ _) q)⟩
                have HWQ : Hid (wk = wr.drewN q) := hwk
                clear hwk
                by_cases hkl : k < L.length
                · obtain ⟨g, rfl, hce⟩ := hsh (by omega)
                  have cK : wk.cell? ⟨g, k, none⟩ = some (.string L[k]) := by
                    rw [HWQ.out]
                    exact (hce k (by omega)).trans (strs_get hkl)
                  obtain ⟨lk, HLK⟩ : ∃ x, Hid (L[k] = x) := ⟨L[k], by unfold Hid; rfl⟩
                  rw [HLK.out] at cK
                  have qk : (k : Int) < (L.length : Int) := by omega
                  have HNX : Hid (hasTo L s (k + 1) = (hasTo L s k || decide (lk = s))) := by
                    unfold Hid
                    rw [hasTo, List.getElem?_eq_getElem hkl, HLK.out]
                    simp
                  obtain ⟨bb, HBB⟩ : ∃ x, Hid (hasTo L s k = x) := ⟨_, rfl⟩
                  rw [HBB.out] at HNX ⊢
                  clear hsh hce
                  cases bb with
                  | true =>
                    go_wp2_with fail
                    go_roundw
                    case rel => exact ⟨k + 1, _, by omega, by rw [HNX.out]; simp, by go_num, HWQ.out⟩
                    case measure => simp [intOf]; omega
                  | false =>
                    by_cases elk : lk = s
                    · have qe : (lk.toList == s.toList) = true := by rw [beq_str]; simp [elk]
                      have HEL : Hid (lk = s) := elk
                      clear elk
                      go_wp2_with fail
                      go_roundw
                      case rel => exact ⟨k + 1, _, by omega, by rw [HNX.out, HEL.out]; simp, by go_num, HWQ.out⟩
                      case measure => simp [intOf]; omega
                    · have qe : (lk.toList == s.toList) = false := by rw [beq_str]; simp [elk]
                      go_wp2_with fail
                      go_roundw
                      case rel => exact ⟨k + 1, _, by omega, by rw [HNX.out]; simp [elk], by go_num, HWQ.out⟩
                      case measure => simp [intOf]; omega
                · have ek : k = L.length := by omega
                  have qk : ¬ (k : Int) < (L.length : Int) := by omega
                  obtain ⟨p, hp⟩ := exists_pl t s n
                  have htu : tuneB s = true := by simp [tuneB, (textTo_isText s).2 HS.out]; omega
                  have HADD := tadd_ok wk bx n t cur0 s p HWK.out.2.1 (by have := HSM.out.len; omega) (by unfold maxLen; omega) hp
                  have hstd : (p < n ∧ t p = s) ↔ s ∈ L := by rw [HSM.out.mem s, hp.stands HSM.out.srt]
                  have hsk := HWK.out.1.size
                  subst ek
                  cases hth : hasTo L s L.length with
                  | true =>
                    have hmem := (hasTo_all L s).1 hth
                    have e1 : addOk t n s p = false := by simp [addOk, hstd.2 hmem]
                    have e2 : addErr t n s p = 0 := by simp [addErr, htu, hstd.2 hmem]
                    rw [addT, addN, e1, e2] at HADD
                    clear hth hmem e1 e2 hstd hp htu hsh
                    go_wp2_with (go_at_call 35; refine HADD.mono ?_; rintro e w2 ⟨rfl, hx2, ht2⟩; have HX2 : Hid (BxAt w2 bx t n cur0) := hx2; have HT2 : Hid (Touch (fun j => j = bx) wk w2) := ht2; clear hx2 ht2)
                    go_roundw
                    case rel =>
                      have hbk := HWK.out.1
                      refine ⟨i + 1, ByteArray.empty, L, t, n, by omega, by go_num, rfl, by intro c hc; simp at hc, by simp, HT2.out.below hbk (by omega) (fun j e => by omega), HX2.out, HT2.out.own HWK.out.2.2 (fun g e hg => bx_own HWK.out.2.1 HWK.out.2.2 e hg), HSM.out, by omega⟩
                    case measure => simp [intOf]; omega
                  | false =>
                    have hmem : s ∉ L := fun hh => by rw [(hasTo_all L s).2 hh] at hth; cases hth
                    have hns : ¬ (p < n ∧ t p = s) := fun hh => hmem (hstd.1 hh)
                    have h60 : n < 60 := by have := HSM.out.len; omega
                    have e1 : addOk t n s p = true := by simp only [addOk, htu, hns, h60, decide_false, decide_true, Bool.not_false, Bool.and_self]
                    have e2 : addErr t n s p = 0 := by simp only [addErr, htu, hns, h60, if_true, if_false]
                    rw [addT, addN, e1, e2] at HADD
                    have HSM2 : Hid (SameT (L ++ [s]) (ins t p s) (n + 1)) := HSM.out.add hmem htu hp
                    have HNA : ∀ w2, Touch (fun j => j = bx) wk w2 → (w2.alloc (.cells #[.string s] 9)).ownsRow w.heap.size 9 1 (.slice oa L.length oc) L.length (strs L) ∧ Below w.heap.size w w2 ∧ w.heap.size ≤ w2.heap.size := fun w2 ht => by
                      have hb2 : Below w.heap.size w w2 := ht.below HWK.out.1 (by omega) (fun j e => by omega)
                      exact ⟨(ht.own HWK.out.2.2 (fun g e hg => bx_own HWK.out.2.1 HWK.out.2.2 e hg)).alloc _, hb2, hb2.size⟩
                    have HOW : Hid (∀ y, (Value.slice oa L.length oc).ownBlock = some y → w.heap.size ≤ y) := fun y e => (HWK.out.2.2.lt y e).1
                    clear hth hmem e1 e2 hstd hp htu hsh hns h60
                    go_wp2_with (first
                      | (go_at_call 35; refine HADD.mono ?_; rintro e w2 ⟨rfl, hx2, ht2⟩; obtain ⟨hna, hb2, hs2⟩ := HNA w2 ht2; have HX2 : Hid (BxAt w2 bx (ins t p s) (n + 1) cur0) := hx2; have HB2 : Hid (Below w.heap.size w w2) := hb2; clear hx2 ht2 hb2 HNA)
                      | (at_builtin; refine wpList_append_fresh _ rfl _ _ 39 rfl w.heap.size 9 i0 (.string ByteArray.empty) 1 16 Try.underlying39 hi0 hz0 hz01 hz02 rfl (by decide) _ L.length (strs L) rfl hna ⟨w2.heap.size, 0, none⟩ 1 1 [.string s] rfl rfl (cell_one_new _ _ _) (by intro u hu; simp at hu; subst hu; rfl) (by decide) (by unfold maxLen; omega) (by omega) (by simp; omega) ?_; intro g' cap' w3 hown3 hgr hfr; have HO3 : Hid (w3.ownsRow w.heap.size 9 1 (.slice (some ⟨g', 0, none⟩) (L.length + 1) cap') (L.length + 1) (strs L ++ [.string s])) := hown3; have HG3 : Hid ((w2.alloc (.cells #[.string s] 9)).grownBy w3 (Value.slice oa L.length oc).ownBlock) := hgr; clear hown3 hgr hfr))
                    go_roundw
                    case rel =>
                      have ho := HO3.out
                      rw [strs_snoc] at ho
                      refine ⟨i + 1, ByteArray.empty, L ++ [s], ins t p s, n + 1, by omega, by go_num, rfl, by intro c hc; simp at hc, by simp, (HB2.out.alloc (by omega) _).grown HG3.out (by simp; omega) (fun y e => HOW.out y e), ?_, by rw [List.length_append, List.length_singleton]; exact ho, HSM2.out, by rw [List.length_append, List.length_singleton]; omega⟩
                      have hxa : BxAt (w2.alloc (.cells #[.string s] 9)) bx (ins t p s) (n + 1) cur0 := HX2.out.below ((Below.refl _ _).alloc (Nat.le_refl _) _)
                      exact World.rowIs.of_block hxa (HG3.out.block bx (World.rowIs.lt hxa) (fun e => bx_own hxa hna e.symm rfl))
                    case measure => simp [intOf]; omega

          · have q4 : ((z i).tmod 9 != 0) = false := by simpa using a2
            clear h hb hx hs hown hsm a2
            go_wp2_with fail
            go_loopw [11, 12] (fun th' k' wk => ∃ k q : Nat, k ≤ L.length ∧ th' = .bool (hasTo L s k) ∧ k' = .int .i64 (k : Int) ∧ wk = wr.drewN q) (fun _ k' _ => L.length - (intOf k').toNat)
            case atStart => exact ⟨0, 0, by omega, rfl, rfl, rfl⟩
            case round =>
              obtain ⟨k, q, hk, rfl, rfl, hwk⟩ := hrel
              rename World => wk
              have HWK : Hid (Below w.heap.size w wk ∧ BxAt wk bx t n cur0 ∧ wk.ownsRow w.heap.size 9 1 (.slice oa L.length oc) L.length (strs L)) := by
                unfold Hid
                rw [hwk]
                exact ⟨below_drewN HB.out q, HX.out, ownsRow_below HO.out (below_drewN (Below.refl _ _) q)⟩
              have HWQ : Hid (wk = wr.drewN q) := hwk
              clear hwk
              by_cases hkl : k < L.length
              · obtain ⟨g, rfl, hce⟩ := hsh (by omega)
                have cK : wk.cell? ⟨g, k, none⟩ = some (.string L[k]) := by
                  rw [HWQ.out]
                  exact (hce k (by omega)).trans (strs_get hkl)
                obtain ⟨lk, HLK⟩ : ∃ x, Hid (L[k] = x) := ⟨L[k], by unfold Hid; rfl⟩
                rw [HLK.out] at cK
                have qk : (k : Int) < (L.length : Int) := by omega
                have HNX : Hid (hasTo L s (k + 1) = (hasTo L s k || decide (lk = s))) := by
                  unfold Hid
                  rw [hasTo, List.getElem?_eq_getElem hkl, HLK.out]
                  simp
                obtain ⟨bb, HBB⟩ : ∃ x, Hid (hasTo L s k = x) := ⟨_, rfl⟩
                rw [HBB.out] at HNX ⊢
                clear hsh hce
                cases bb with
                | true =>
                  go_wp2_with fail
                  go_roundw
                  case rel => exact ⟨k + 1, _, by omega, by rw [HNX.out]; simp, by go_num, HWQ.out⟩
                  case measure => simp [intOf]; omega
                | false =>
                  by_cases elk : lk = s
                  · have qe : (lk.toList == s.toList) = true := by rw [beq_str]; simp [elk]
                    have HEL : Hid (lk = s) := elk
                    clear elk
                    go_wp2_with fail
                    go_roundw
                    case rel => exact ⟨k + 1, _, by omega, by rw [HNX.out, HEL.out]; simp, by go_num, HWQ.out⟩
                    case measure => simp [intOf]; omega
                  · have qe : (lk.toList == s.toList) = false := by rw [beq_str]; simp [elk]
                    go_wp2_with fail
                    go_roundw
                    case rel => exact ⟨k + 1, _, by omega, by rw [HNX.out]; simp [elk], by go_num, HWQ.out⟩
                    case measure => simp [intOf]; omega
              · have ek : k = L.length := by omega
                have qk : ¬ (k : Int) < (L.length : Int) := by omega
                obtain ⟨p, hp⟩ := exists_pl t s n
                have htu : tuneB s = true := by simp [tuneB, (textTo_isText s).2 HS.out]; omega
                have HADD := tadd_ok wk bx n t cur0 s p HWK.out.2.1 (by have := HSM.out.len; omega) (by unfold maxLen; omega) hp
                have hstd : (p < n ∧ t p = s) ↔ s ∈ L := by rw [HSM.out.mem s, hp.stands HSM.out.srt]
                have hsk := HWK.out.1.size
                subst ek
                cases hth : hasTo L s L.length with
                | true =>
                  have hmem := (hasTo_all L s).1 hth
                  have e1 : addOk t n s p = false := by simp [addOk, hstd.2 hmem]
                  have e2 : addErr t n s p = 0 := by simp [addErr, htu, hstd.2 hmem]
                  rw [addT, addN, e1, e2] at HADD
                  clear hth hmem e1 e2 hstd hp htu hsh
                  go_wp2_with (go_at_call 35; refine HADD.mono ?_; rintro e w2 ⟨rfl, hx2, ht2⟩; have HX2 : Hid (BxAt w2 bx t n cur0) := hx2; have HT2 : Hid (Touch (fun j => j = bx) wk w2) := ht2; clear hx2 ht2)
                  go_roundw
                  case rel =>
                    have hbk := HWK.out.1
                    refine ⟨i + 1, ByteArray.empty, L, t, n, by omega, by go_num, rfl, by intro c hc; simp at hc, by simp, HT2.out.below hbk (by omega) (fun j e => by omega), HX2.out, HT2.out.own HWK.out.2.2 (fun g e hg => bx_own HWK.out.2.1 HWK.out.2.2 e hg), HSM.out, by omega⟩
                  case measure => simp [intOf]; omega
                | false =>
                  have hmem : s ∉ L := fun hh => by rw [(hasTo_all L s).2 hh] at hth; cases hth
                  have hns : ¬ (p < n ∧ t p = s) := fun hh => hmem (hstd.1 hh)
                  have h60 : n < 60 := by have := HSM.out.len; omega
                  have e1 : addOk t n s p = true := by simp only [addOk, htu, hns, h60, decide_false, decide_true, Bool.not_false, Bool.and_self]
                  have e2 : addErr t n s p = 0 := by simp only [addErr, htu, hns, h60, if_true, if_false]
                  rw [addT, addN, e1, e2] at HADD
                  have HSM2 : Hid (SameT (L ++ [s]) (ins t p s) (n + 1)) := HSM.out.add hmem htu hp
                  have HNA : ∀ w2, Touch (fun j => j = bx) wk w2 → (w2.alloc (.cells #[.string s] 9)).ownsRow w.heap.size 9 1 (.slice oa L.length oc) L.length (strs L) ∧ Below w.heap.size w w2 ∧ w.heap.size ≤ w2.heap.size := fun w2 ht => by
                    have hb2 : Below w.heap.size w w2 := ht.below HWK.out.1 (by omega) (fun j e => by omega)
                    exact ⟨(ht.own HWK.out.2.2 (fun g e hg => bx_own HWK.out.2.1 HWK.out.2.2 e hg)).alloc _, hb2, hb2.size⟩
                  have HOW : Hid (∀ y, (Value.slice oa L.length oc).ownBlock = some y → w.heap.size ≤ y) := fun y e => (HWK.out.2.2.lt y e).1
                  clear hth hmem e1 e2 hstd hp htu hsh hns h60
                  go_wp2_with (first
                    | (go_at_call 35; refine HADD.mono ?_; rintro e w2 ⟨rfl, hx2, ht2⟩; obtain ⟨hna, hb2, hs2⟩ := HNA w2 ht2; have HX2 : Hid (BxAt w2 bx (ins t p s) (n + 1) cur0) := hx2; have HB2 : Hid (Below w.heap.size w w2) := hb2; clear hx2 ht2 hb2 HNA)
                    | (at_builtin; refine wpList_append_fresh _ rfl _ _ 39 rfl w.heap.size 9 i0 (.string ByteArray.empty) 1 16 Try.underlying39 hi0 hz0 hz01 hz02 rfl (by decide) _ L.length (strs L) rfl hna ⟨w2.heap.size, 0, none⟩ 1 1 [.string s] rfl rfl (cell_one_new _ _ _) (by intro u hu; simp at hu; subst hu; rfl) (by decide) (by unfold maxLen; omega) (by omega) (by simp; omega) ?_; intro g' cap' w3 hown3 hgr hfr; have HO3 : Hid (w3.ownsRow w.heap.size 9 1 (.slice (some ⟨g', 0, none⟩) (L.length + 1) cap') (L.length + 1) (strs L ++ [.string s])) := hown3; have HG3 : Hid ((w2.alloc (.cells #[.string s] 9)).grownBy w3 (Value.slice oa L.length oc).ownBlock) := hgr; clear hown3 hgr hfr))
                  go_roundw
                  case rel =>
                    have ho := HO3.out
                    rw [strs_snoc] at ho
                    refine ⟨i + 1, ByteArray.empty, L ++ [s], ins t p s, n + 1, by omega, by go_num, rfl, by intro c hc; simp at hc, by simp, (HB2.out.alloc (by omega) _).grown HG3.out (by simp; omega) (fun y e => HOW.out y e), ?_, by rw [List.length_append, List.length_singleton]; exact ho, HSM2.out, by rw [List.length_append, List.length_singleton]; omega⟩
                    have hxa : BxAt (w2.alloc (.cells #[.string s] 9)) bx (ins t p s) (n + 1) cur0 := HX2.out.below ((Below.refl _ _).alloc (Nat.le_refl _) _)
                    exact World.rowIs.of_block hxa (HG3.out.block bx (World.rowIs.lt hxa) (fun e => bx_own hxa hna e.symm rfl))
                  case measure => simp [intOf]; omega

        · have q3 : decide ((i : Int) < (len : Int)) = false := by simp; omega
          clear h hb hx hs hown hsm
          go_wp2_with fail
          go_loopw [11, 12] (fun th' k' wk => ∃ k q : Nat, k ≤ L.length ∧ th' = .bool (hasTo L s k) ∧ k' = .int .i64 (k : Int) ∧ wk = wr.drewN q) (fun _ k' _ => L.length - (intOf k').toNat)
          case atStart => exact ⟨0, 0, by omega, rfl, rfl, rfl⟩
          case round =>
            obtain ⟨k, q, hk, rfl, rfl, hwk⟩ := hrel
            rename World => wk
            have HWK : Hid (Below w.heap.size w wk ∧ BxAt wk bx t n cur0 ∧ wk.ownsRow w.heap.size 9 1 (.slice oa L.length oc) L.length (strs L)) := by
              unfold Hid
              rw [hwk]
              exact ⟨below_drewN HB.out q, HX.out, ownsRow_below HO.out (below_drewN (Below.refl _ _) q)⟩
            have HWQ : Hid (wk = wr.drewN q) := hwk
            clear hwk
            by_cases hkl : k < L.length
            · obtain ⟨g, rfl, hce⟩ := hsh (by omega)
              have cK : wk.cell? ⟨g, k, none⟩ = some (.string L[k]) := by
                rw [HWQ.out]
                exact (hce k (by omega)).trans (strs_get hkl)
              obtain ⟨lk, HLK⟩ : ∃ x, Hid (L[k] = x) := ⟨L[k], by unfold Hid; rfl⟩
              rw [HLK.out] at cK
              have qk : (k : Int) < (L.length : Int) := by omega
              have HNX : Hid (hasTo L s (k + 1) = (hasTo L s k || decide (lk = s))) := by
                unfold Hid
                rw [hasTo, List.getElem?_eq_getElem hkl, HLK.out]
                simp
              obtain ⟨bb, HBB⟩ : ∃ x, Hid (hasTo L s k = x) := ⟨_, rfl⟩
              rw [HBB.out] at HNX ⊢
              clear hsh hce
              cases bb with
              | true =>
                go_wp2_with fail
                go_roundw
                case rel => exact ⟨k + 1, _, by omega, by rw [HNX.out]; simp, by go_num, HWQ.out⟩
                case measure => simp [intOf]; omega
              | false =>
                by_cases elk : lk = s
                · have qe : (lk.toList == s.toList) = true := by rw [beq_str]; simp [elk]
                  have HEL : Hid (lk = s) := elk
                  clear elk
                  go_wp2_with fail
                  go_roundw
                  case rel => exact ⟨k + 1, _, by omega, by rw [HNX.out, HEL.out]; simp, by go_num, HWQ.out⟩
                  case measure => simp [intOf]; omega
                · have qe : (lk.toList == s.toList) = false := by rw [beq_str]; simp [elk]
                  go_wp2_with fail
                  go_roundw
                  case rel => exact ⟨k + 1, _, by omega, by rw [HNX.out]; simp [elk], by go_num, HWQ.out⟩
                  case measure => simp [intOf]; omega
            · have ek : k = L.length := by omega
              have qk : ¬ (k : Int) < (L.length : Int) := by omega
              obtain ⟨p, hp⟩ := exists_pl t s n
              have htu : tuneB s = true := by simp [tuneB, (textTo_isText s).2 HS.out]; omega
              have HADD := tadd_ok wk bx n t cur0 s p HWK.out.2.1 (by have := HSM.out.len; omega) (by unfold maxLen; omega) hp
              have hstd : (p < n ∧ t p = s) ↔ s ∈ L := by rw [HSM.out.mem s, hp.stands HSM.out.srt]
              have hsk := HWK.out.1.size
              subst ek
              cases hth : hasTo L s L.length with
              | true =>
                have hmem := (hasTo_all L s).1 hth
                have e1 : addOk t n s p = false := by simp [addOk, hstd.2 hmem]
                have e2 : addErr t n s p = 0 := by simp [addErr, htu, hstd.2 hmem]
                rw [addT, addN, e1, e2] at HADD
                clear hth hmem e1 e2 hstd hp htu hsh
                go_wp2_with (go_at_call 35; refine HADD.mono ?_; rintro e w2 ⟨rfl, hx2, ht2⟩; have HX2 : Hid (BxAt w2 bx t n cur0) := hx2; have HT2 : Hid (Touch (fun j => j = bx) wk w2) := ht2; clear hx2 ht2)
                go_roundw
                case rel =>
                  have hbk := HWK.out.1
                  refine ⟨i + 1, ByteArray.empty, L, t, n, by omega, by go_num, rfl, by intro c hc; simp at hc, by simp, HT2.out.below hbk (by omega) (fun j e => by omega), HX2.out, HT2.out.own HWK.out.2.2 (fun g e hg => bx_own HWK.out.2.1 HWK.out.2.2 e hg), HSM.out, by omega⟩
                case measure => simp [intOf]; omega
              | false =>
                have hmem : s ∉ L := fun hh => by rw [(hasTo_all L s).2 hh] at hth; cases hth
                have hns : ¬ (p < n ∧ t p = s) := fun hh => hmem (hstd.1 hh)
                have h60 : n < 60 := by have := HSM.out.len; omega
                have e1 : addOk t n s p = true := by simp only [addOk, htu, hns, h60, decide_false, decide_true, Bool.not_false, Bool.and_self]
                have e2 : addErr t n s p = 0 := by simp only [addErr, htu, hns, h60, if_true, if_false]
                rw [addT, addN, e1, e2] at HADD
                have HSM2 : Hid (SameT (L ++ [s]) (ins t p s) (n + 1)) := HSM.out.add hmem htu hp
                have HNA : ∀ w2, Touch (fun j => j = bx) wk w2 → (w2.alloc (.cells #[.string s] 9)).ownsRow w.heap.size 9 1 (.slice oa L.length oc) L.length (strs L) ∧ Below w.heap.size w w2 ∧ w.heap.size ≤ w2.heap.size := fun w2 ht => by
                  have hb2 : Below w.heap.size w w2 := ht.below HWK.out.1 (by omega) (fun j e => by omega)
                  exact ⟨(ht.own HWK.out.2.2 (fun g e hg => bx_own HWK.out.2.1 HWK.out.2.2 e hg)).alloc _, hb2, hb2.size⟩
                have HOW : Hid (∀ y, (Value.slice oa L.length oc).ownBlock = some y → w.heap.size ≤ y) := fun y e => (HWK.out.2.2.lt y e).1
                clear hth hmem e1 e2 hstd hp htu hsh hns h60
                go_wp2_with (first
                  | (go_at_call 35; refine HADD.mono ?_; rintro e w2 ⟨rfl, hx2, ht2⟩; obtain ⟨hna, hb2, hs2⟩ := HNA w2 ht2; have HX2 : Hid (BxAt w2 bx (ins t p s) (n + 1) cur0) := hx2; have HB2 : Hid (Below w.heap.size w w2) := hb2; clear hx2 ht2 hb2 HNA)
                  | (at_builtin; refine wpList_append_fresh _ rfl _ _ 39 rfl w.heap.size 9 i0 (.string ByteArray.empty) 1 16 Try.underlying39 hi0 hz0 hz01 hz02 rfl (by decide) _ L.length (strs L) rfl hna ⟨w2.heap.size, 0, none⟩ 1 1 [.string s] rfl rfl (cell_one_new _ _ _) (by intro u hu; simp at hu; subst hu; rfl) (by decide) (by unfold maxLen; omega) (by omega) (by simp; omega) ?_; intro g' cap' w3 hown3 hgr hfr; have HO3 : Hid (w3.ownsRow w.heap.size 9 1 (.slice (some ⟨g', 0, none⟩) (L.length + 1) cap') (L.length + 1) (strs L ++ [.string s])) := hown3; have HG3 : Hid ((w2.alloc (.cells #[.string s] 9)).grownBy w3 (Value.slice oa L.length oc).ownBlock) := hgr; clear hown3 hgr hfr))
                go_roundw
                case rel =>
                  have ho := HO3.out
                  rw [strs_snoc] at ho
                  refine ⟨i + 1, ByteArray.empty, L ++ [s], ins t p s, n + 1, by omega, by go_num, rfl, by intro c hc; simp at hc, by simp, (HB2.out.alloc (by omega) _).grown HG3.out (by simp; omega) (fun y e => HOW.out y e), ?_, by rw [List.length_append, List.length_singleton]; exact ho, HSM2.out, by rw [List.length_append, List.length_singleton]; omega⟩
                  have hxa : BxAt (w2.alloc (.cells #[.string s] 9)) bx (ins t p s) (n + 1) cur0 := HX2.out.below ((Below.refl _ _).alloc (Nat.le_refl _) _)
                  exact World.rowIs.of_block hxa (HG3.out.block bx (World.rowIs.lt hxa) (fun e => bx_own hxa hna e.symm rfl))
                case measure => simp [intOf]; omega

      · have q1 : (i : Int) ≤ (len : Int) := by omega
        have q2 : decide ((L.length : Int) < 20) = false := by simp; omega
        clear h hb hx hs hown hsm hsh
        go_wp2_with fail
        go_ret3
        exact ⟨HB.out, bx, _, L, t, n, rfl, hbx, HX.out, HO.out, HSM.out, hL⟩
    · have q1 : decide ((i : Int) ≤ (len : Int)) = false := by simp; omega
      clear h hb hx hs hown hsm hsh
      go_wp2_with fail
      go_ret3
      exact ⟨HB.out, bx, _, L, t, n, rfl, hbx, HX.out, HO.out, HSM.out, hL⟩
end Go.Proofs.Ytpngikmcjkjdaab
