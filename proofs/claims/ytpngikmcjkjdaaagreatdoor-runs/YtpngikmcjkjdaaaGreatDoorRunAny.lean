import Derived.Test.YtpngikmcjkjdaaaGreatDoorRaw
import Derived.Test.YtpngikmcjkjdaaaGreatDoorRawRef
import Derived.Test.YtpngikmcjkjdaaaGreatDoorRefTab
namespace Go.Proofs.YtpngikmcjkjdaaaGreatDoor
open Go.RowKit
set_option linter.unusedVariables false

/-- What Run answers on any lists and any text. -/
def runAns (r : RLay) (A : Nat → Bool) (X : Nat → Nat → Int) (s : ByteArray) : Bool × Int :=
  if rawOk r X = true then
    if (decide (s.size ≤ 1000) && textTo s s.size) = true then ((rawTab r A X).accepts (notesOf s), 0) else (false, 7)
  else (false, 6)

set_option maxRecDepth 20000 in
set_option maxHeartbeats 1600000 in
theorem trun_any (r : RLay) (A : Nat → Bool) (X : Nat → Nat → Int) (s : ByteArray) (w : World) (h : RawAt w r A X) (hs : s.size ≤ maxLen) :
    Calls Tryz.prog 74 #[.agg #[.slice r.aa r.na r.ca, .slice r.an r.nn r.cn], .string s] w
      fun e w' => e = .returned (.tuple #[.bool (runAns r A X s).1, .int .i64 (runAns r A X s).2]) ∧ Below w.heap.size w w' := by
  unfold maxLen at hs
  have B1 : Below w.heap.size w (w.alloc (.cells #[.slice r.aa r.na r.ca, .slice r.an r.nn r.cn] 41)) := (Below.refl _ _).alloc (Nat.le_refl _) _
  have h1 := h.below B1
  have HV := valid_any r A X _ h1
  cases hok : rawOk r X
  · have e : runAns r A X s = (false, 6) := by simp [runAns, hok]
    rw [e]
    rw [hok] at HV
    clear e h h1 hok
    go_enter Tryz.func74, Tryz.ntmps74
    go_wp2_with fail
    refine HV.mono ?_
    rintro e w1 ⟨rfl, hb1⟩
    have B2 : Below w.heap.size w w1 := B1.trans (hb1.mono (by simp))
    clear HV hb1
    go_wp2_with fail
    go_ret2
    exact ⟨rfl, B2⟩
  · by_cases hl : s.size ≤ 1000
    · by_cases ht : textTo s s.size = true
      · have e : runAns r A X s = ((rawTab r A X).accepts (notesOf s), 0) := by simp [runAns, hok, ht, hl]
        rw [e]
        obtain ⟨V, eV, hV⟩ := rawTab_at h hok
        have := trun_ok V _ s w (rawTab_ok hok) hV ((textTo_isText s).1 ht) hl
        rw [← eV] at this
        exact this
      · have e : runAns r A X s = (false, 7) := by simp [runAns, hok, ht]
        rw [e]
        obtain ⟨V, eV, hV⟩ := rawTab_at h hok
        have hM := rawTab_ok (A := A) hok
        generalize rawTab r A X = M at *
        have eV' : Value.agg #[.slice r.aa r.na r.ca, .slice r.an r.nn r.cn] = _ := eV
        rw [eV']
        clear e HV h1 h eV eV' B1
        have hlo := hM.lo
        have hhi := hM.hi
        have B1 : Below w.heap.size w (w.alloc (.cells #[.slice (some ⟨V.ba, V.oa, none⟩) M.n V.ca, .slice (some ⟨V.bn, V.on, none⟩) M.n V.cn] 41)) := (Below.refl _ _).alloc (Nat.le_refl _) _
        have h1 := hV.below B1
        go_enter Tryz.func74, Tryz.ntmps74
        go_wp2_with fail
        refine (valid_ok V M _ hM h1).mono ?_
        rintro e w1 ⟨rfl, hb1⟩
        have hc0 := (bcell hb1).1 w.heap.size 0 (by simp)
        have hc1 := (bcell hb1).1 w.heap.size 1 (by simp)
        have h2 := h1.below hb1
        have B2 : Below w.heap.size w w1 := B1.trans (hb1.mono (by simp))
        simp at hc0 hc1
        clear hV h1 hb1
        go_wp2_with fail
        go_loop [6, 7, 8, 9] (fun st i _ _ => ∃ k q : Nat, k ≤ s.size ∧ q < M.n ∧ i = .int .i64 k ∧ st = .int .i64 q ∧ textTo s k = true) (fun _ i _ _ => s.size - (intOf i).toNat)
        case atStart => exact ⟨0, 0, Nat.zero_le _, by omega, rfl, rfl, rfl⟩
        case round =>
          obtain ⟨k, q, hk, hq, rfl, rfl, htk⟩ := hrel
          by_cases hlt : k < s.size
          · have hg := getD_byte s k hlt
            have hts : textTo s (k + 1) = (decide (97 ≤ s[k].toNat) && decide (s[k].toNat ≤ 104)) := by simp only [textTo, htk, Bool.true_and, hg]
            by_cases hn : 97 ≤ s[k].toNat ∧ s[k].toNat ≤ 104
            · have HT : Hid (textTo s (k + 1) = true) := by unfold Hid; rw [hts]; simp [hn.1, hn.2]
              have hc8 : (s[k].toNat - 97 : Nat) < 8 := by omega
              have hch : 97 ≤ (s[k].toNat : Int) ∧ (s[k].toNat : Int) ≤ 104 := by omega
              have hr := h2.row q hq
              have hcl := h2.cel q _ hq hc8
              have hnx := hM.nx q _ hq hc8
              have e1 : ((s[k].toNat : Int) - 97).toNat = s[k].toNat - 97 := by omega
              clear h2 hts hg htk ht
              go_wp2_with (go_at_call 121; refine (number_yes _ _ hch.1 hch.2).mono ?_; rintro e w' ⟨rfl, rfl⟩)
              go_round
              case rel => exact ⟨k + 1, _, by omega, hnx, by go_num, rfl, HT.out⟩
              case measure => simp [intOf]; omega
            · have hch : (s[k].toNat : Int) < 97 ∨ 104 < (s[k].toNat : Int) := by omega
              clear h2 hts hg htk ht
              go_wp2_with (go_at_call 121; refine (number_no _ _ hch).mono ?_; rintro e w' ⟨rfl, rfl⟩)
              go_ret2
              exact ⟨rfl, B2⟩
          · exfalso
            have e : k = s.size := by omega
            subst e
            exact ht htk
    · have e : runAns r A X s = (false, 7) := by simp [runAns, hok, hl]
      rw [e]
      rw [hok] at HV
      clear e h h1 hok
      go_enter Tryz.func74, Tryz.ntmps74
      go_wp2_with fail
      refine HV.mono ?_
      rintro e w1 ⟨rfl, hb1⟩
      have B2 : Below w.heap.size w w1 := B1.trans (hb1.mono (by simp))
      clear HV hb1
      go_wp2_with fail
      go_ret2
      exact ⟨rfl, B2⟩

set_option maxRecDepth 20000 in
set_option maxHeartbeats 400000 in
theorem run_any (r : RLay) (A : Nat → Bool) (X : Nat → Nat → Int) (s : ByteArray) (w : World) (h : RawAt w r A X) (hs : s.size ≤ maxLen) :
    Calls Tryz.prog 32 #[.agg #[.slice r.aa r.na r.ca, .slice r.an r.nn r.cn], .string s] w
      fun e w' => e = .returned (.tuple #[.bool (runAns r A X s).1, .int .i64 (runAns r A X s).2]) ∧ Below w.heap.size w w' := by
  have B1 : Below w.heap.size w (w.alloc (.cells #[.slice r.aa r.na r.ca, .slice r.an r.nn r.cn] 41)) := (Below.refl _ _).alloc (Nat.le_refl _) _
  have h1 := h.below B1
  go_enter Tryz.func32, Tryz.ntmps32
  go_wp2_with fail
  refine (trun_any r A X s _ h1 hs).mono ?_
  rintro e w1 ⟨rfl, hb1⟩
  go_wp2
  go_ret2
  exact ⟨rfl, B1.trans (hb1.mono (by simp))⟩

set_option maxRecDepth 20000 in
set_option maxHeartbeats 1600000 in
theorem refRun_any (r : RLay) (A : Nat → Bool) (X : Nat → Nat → Int) (s : ByteArray) (w : World) (h : RawAt w r A X) (hs : s.size ≤ maxLen) :
    Calls Tryz.prog 33 #[.agg #[.slice r.aa r.na r.ca, .slice r.an r.nn r.cn], .string s] w
      fun e w' => e = .returned (.tuple #[.bool (runAns r A X s).1, .int .i64 (runAns r A X s).2]) ∧ Below w.heap.size w w' := by
  have B1 : Below w.heap.size w (w.alloc (.cells #[.slice r.aa r.na r.ca, .slice r.an r.nn r.cn] 41)) := (Below.refl _ _).alloc (Nat.le_refl _) _
  have h1 := h.below B1
  have HV := isTable_any r A X _ h1
  cases hok : rawOk r X
  · have e : runAns r A X s = (false, 6) := by simp [runAns, hok]
    rw [e]
    rw [hok] at HV
    clear e h h1 hok
    go_enter Tryz.func33, Tryz.ntmps33
    go_wp2_with fail
    refine HV.mono ?_
    rintro e w1 ⟨rfl, hb1⟩
    have B2 : Below w.heap.size w w1 := B1.trans (hb1.mono (by simp))
    clear HV hb1
    go_wp2_with fail
    go_ret2
    exact ⟨rfl, B2⟩
  · rw [hok] at HV
    cases ht : (decide (s.size ≤ 1000) && textTo s s.size)
    · have e : runAns r A X s = (false, 7) := by simp only [runAns, hok, ht]; rfl
      rw [e]
      have HI : ∀ w, Calls Tryz.prog 61 #[.string s, .int .i64 1000] w fun e w' => e = .returned (.bool false) ∧ w' = w := fun w => by
        have := isText_ok s 1000 w hs (by omega)
        rw [ht] at this; exact this
      clear e h h1 hok ht
      go_enter Tryz.func33, Tryz.ntmps33
      go_wp2_with fail
      refine HV.mono ?_
      rintro e w1 ⟨rfl, hb1⟩
      have B2 : Below w.heap.size w w1 := B1.trans (hb1.mono (by simp))
      clear HV hb1
      go_wp2_with (go_at_call 61; refine (HI _).mono ?_; rintro e w' ⟨rfl, rfl⟩)
      go_ret2
      exact ⟨rfl, B2⟩
    · have e : runAns r A X s = ((rawTab r A X).accepts (notesOf s), 0) := by simp only [runAns, hok, ht]; rfl
      rw [e]
      have HI : ∀ w, Calls Tryz.prog 61 #[.string s, .int .i64 1000] w fun e w' => e = .returned (.bool true) ∧ w' = w := fun w => by
        have := isText_ok s 1000 w hs (by omega)
        rw [ht] at this; exact this
      obtain ⟨V, eV, hV⟩ := rawTab_at h hok
      have hM := rawTab_ok (A := A) hok
      generalize rawTab r A X = M at *
      simp only [Bool.and_eq_true, decide_eq_true_eq] at ht
      have hT := (textTo_isText s).1 ht.2
      have hl := ht.1
      have eV' : Value.agg #[.slice r.aa r.na r.ca, .slice r.an r.nn r.cn] = _ := eV
      rw [eV']
      clear e HV h1 h hok ht eV eV' B1
      have B1 : Below w.heap.size w (w.alloc (.cells #[.slice (some ⟨V.ba, V.oa, none⟩) M.n V.ca, .slice (some ⟨V.bn, V.on, none⟩) M.n V.cn] 41)) := (Below.refl _ _).alloc (Nat.le_refl _) _
      have h1 := hV.below B1
      go_enter Tryz.func33, Tryz.ntmps33
      go_wp2_with fail
      refine (isTable_ok V M _ hM h1).mono ?_
      rintro e w1 ⟨rfl, hb1⟩
      have B2 : Below w.heap.size w w1 := B1.trans (hb1.mono (by simp))
      have h2 := h1.below hb1
      have hc0 := (bcell hb1).1 w.heap.size 0 (by simp)
      have hc1 := (bcell hb1).1 w.heap.size 1 (by simp)
      simp at hc0 hc1
      clear h1 hV hb1
      go_wp2_with (go_at_call 61; refine (HI _).mono ?_; rintro e w' ⟨rfl, rfl⟩)
      refine (accepts_ok V M s _ hM h2 hT hl).mono ?_
      rintro e w2 ⟨rfl, hb2⟩
      go_wp2
      go_ret2
      exact ⟨rfl, B2.trans (hb2.mono B2.size)⟩
end Go.Proofs.YtpngikmcjkjdaaaGreatDoor
