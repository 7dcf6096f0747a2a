import Derived.Test.YtpngikmcjkjdaaaGreatDoorBookK
import Derived.Test.YtpngikmcjkjdaaaGreatDoorRefTab
namespace Go.Proofs.YtpngikmcjkjdaaaGreatDoor
open Go.RowKit
set_option linter.unusedVariables false
set_option linter.unusedSimpArgs false

/-- The document's book: the tunes, and what its cursors hold. -/
def ByAt (w : World) (b : Nat) (ry : Value) (t : Nat → ByteArray) (n : Nat) (cy : Nat → Value) : Prop := w.rowIs b 77 21 (fun i => if i = 0 then ry else cy (i - 1)) ∧ w.ownsRow 0 9 1 ry n (scells t n)
section
variable {w w' : World} {b n : Nat} {ry : Value} {t : Nat → ByteArray} {cy : Nat → Value}
theorem ByAt.row (h : ByAt w b ry t n cy) : w.cell? ⟨b, 0, none⟩ = some ry := by
  have := World.rowIs.cell h.1 (i := 0) (by omega)
  simpa using this
theorem ByAt.frozen (h : ByAt w b ry t n cy) : w.frozen? ⟨b, 0, none⟩ = false := World.rowIs.frozen h.1 0
theorem ByAt.below (h : ByAt w b ry t n cy) (hb : Below w.heap.size w w') : ByAt w' b ry t n cy := ⟨World.rowIs.of_block h.1 (hb.block b (World.rowIs.lt h.1)), ownsRow_below h.2 hb⟩
theorem ByAt.shape (h : ByAt w b ry t n cy) : ∃ a cap, ry = .slice a n cap ∧ (0 < n → ∃ g, a = some ⟨g, 0, none⟩ ∧ ∀ i, i < n → w.cell? ⟨g, i, none⟩ = some (.string (t i))) := by
  obtain ⟨al, cl, e, hal⟩ := ownsRow_shape h.2
  refine ⟨al, cl, e, fun h0 => ?_⟩
  obtain ⟨g, e2, hc⟩ := hal h0
  exact ⟨g, e2, fun i hi => (hc i (by omega)).trans (scells_at t hi)⟩
end
open Classical in
noncomputable def hasB (t : Nat → ByteArray) (n : Nat) (s : ByteArray) : Bool := decide (∃ j, j < n ∧ t j = s)
open Classical in
theorem hasB_iff {t : Nat → ByteArray} {n : Nat} {s : ByteArray} : hasB t n s = true ↔ ∃ j, j < n ∧ t j = s := by rw [hasB, decide_eq_true_iff]
theorem hasB_yes {t : Nat → ByteArray} {n : Nat} {s : ByteArray} (h : ∃ j, j < n ∧ t j = s) : hasB t n s = true := hasB_iff.2 h
theorem hasB_no {t : Nat → ByteArray} {n : Nat} {s : ByteArray} (h : ¬ ∃ j, j < n ∧ t j = s) : hasB t n s = false := by
  rw [Bool.eq_false_iff]; exact fun h' => h (hasB_iff.1 h')
theorem IsPl.hasB_eq {t : Nat → ByteArray} {n p : Nat} {s : ByteArray} (h : IsPl t n s p) (hs : SrtB t n) : hasB t n s = decide (p < n ∧ t p = s) := by
  by_cases e : p < n ∧ t p = s
  · rw [hasB_yes ((h.stands hs).2 e)]; simp [e]
  · rw [hasB_no (fun h' => e ((h.stands hs).1 h'))]; simp [e]

set_option maxRecDepth 20000 in
set_option maxHeartbeats 1000000 in
theorem rhas_ok (w : World) (b n : Nat) (ry : Value) (t : Nat → ByteArray) (cy : Nat → Value) (s : ByteArray) (h : ByAt w b ry t n cy) (hn : n ≤ 60) :
    Calls Tryz.prog 84 #[.pointer (some ⟨b, 0, none⟩), .string s] w fun e w' => e = .returned (.bool (hasB t n s)) ∧ w' = w := by
  have c0 := h.row
  obtain ⟨a, cap, rfl, hsh⟩ := h.shape
  go_enter Tryz.func84, Tryz.ntmps84
  go_wp2_with fail
  go_loop [5] (fun v => ∃ i : Nat, i ≤ n ∧ v = .int .i64 (i : Int) ∧ ∀ j, j < i → t j ≠ s) (fun v => n - (intOf v).toNat)
  case atStart => exact ⟨0, by omega, rfl, fun j hj => by omega⟩
  case round =>
    obtain ⟨i, hi, rfl, hno⟩ := hrel
    have HN : Hid (∀ j, j < i → t j ≠ s) := hno
    clear hno
    by_cases hlt : i < n
    · obtain ⟨g, rfl, hc⟩ := hsh (by omega)
      have c1 := hc i hlt
      have q1 : (i : Int) < (n : Int) := by omega
      by_cases e : t i = s
      · have q2 : ((t i).toList == s.toList) = true := by rw [beq_str]; simp [e]
        have HH : Hid (hasB t n s = true) := hasB_yes ⟨i, hlt, e⟩
        clear h hsh hc e
        go_wp2_with fail
        go_ret
        exact ⟨ret_bool HH.out.symm, rfl⟩
      · have q2 : ((t i).toList == s.toList) = false := by rw [beq_str]; simp [e]
        clear h hsh hc
        go_wp2_with fail
        go_round
        case rel => exact ⟨i + 1, by omega, by go_num, fun j hj => by
          by_cases e' : j = i
          · subst e'; exact e
          · exact HN.out j (by omega)⟩
        case measure => simp [intOf]; omega
    · have e : i = n := by omega
      have q1 : ¬ (i : Int) < (n : Int) := by omega
      have HH : Hid (hasB t n s = false) := hasB_no (by rintro ⟨j, hj, hjs⟩; exact HN.out j (by omega) hjs)
      clear h hsh
      go_wp2_with fail
      go_ret
      exact ⟨ret_bool HH.out.symm, rfl⟩

set_option maxRecDepth 20000 in
set_option maxHeartbeats 1000000 in
theorem rhasC_ok (w : World) (b n : Nat) (ry : Value) (t : Nat → ByteArray) (cy : Nat → Value) (s : ByteArray) (p : Nat) (h : ByAt w b ry t n cy) (hn : n ≤ 60) (hs : s.size ≤ maxLen) (hsr : SrtB t n) (hp : IsPl t n s p) :
    Calls Tryz.prog 47 #[.pointer (some ⟨b, 0, none⟩), .string s] w fun e w' => e = .returned (.tuple #[.bool (dropOk t n s p), .int .i64 (dropErr s)]) ∧ w' = w := by
  have HT := isText_ok s 12 w hs (by omega)
  have HH := rhas_ok w b n ry t cy s h hn
  rw [hp.hasB_eq hsr] at HH
  cases htu : tuneB s with
  | false =>
    rw [show (decide (s.size ≤ 12) && textTo s s.size) = false from htu] at HT
    have e1 : dropOk t n s p = false := by simp [dropOk, htu]
    have e2 : dropErr s = 7 := by simp [dropErr, htu]
    rw [e1, e2]
    clear h e1 e2
    go_enter Tryz.func47, Tryz.ntmps47
    go_wp2_with (go_at_call 61; refine HT.mono ?_; rintro e w' ⟨rfl, hw'⟩; obtain rfl : w = w' := hw'.symm)
    go_ret2
    exact ⟨rfl, rfl⟩
  | true =>
    rw [show (decide (s.size ≤ 12) && textTo s s.size) = true from htu] at HT
    have e2 : dropErr s = 0 := by simp [dropErr, htu]
    have e1 : dropOk t n s p = decide (p < n ∧ t p = s) := by simp only [dropOk, htu, Bool.true_and]
    rw [e1, e2]
    generalize decide (p < n ∧ t p = s) = bb at *
    clear h e1 e2 hp
    go_enter Tryz.func47, Tryz.ntmps47
    go_wp2_with (first
      | (go_at_call 61; refine HT.mono ?_; rintro e w' ⟨rfl, hw'⟩; obtain rfl : w = w' := hw'.symm)
      | (go_at_call 84; refine HH.mono ?_; rintro e w' ⟨rfl, hw'⟩; obtain rfl : w = w' := hw'.symm))
    go_ret2
    exact ⟨rfl, rfl⟩

theorem ins_lt (t : Nat → ByteArray) {p j : Nat} (s : ByteArray) (h : j < p) : ins t p s j = t j := by unfold ins; rw [if_pos h]
theorem ins_at (t : Nat → ByteArray) (p : Nat) (s : ByteArray) : ins t p s p = s := by unfold ins; rw [if_neg (by omega), if_pos rfl]
theorem ins_gt (t : Nat → ByteArray) {p j : Nat} (s : ByteArray) (h : p ≤ j) : ins t p s (j + 1) = t j := by unfold ins; rw [if_neg (by omega), if_neg (by omega), Nat.add_sub_cancel]
/-- The row that a call has made is its own; the book holds it. -/
theorem ByAt.put {w w1 : World} {b n m : Nat} {ry v : Value} {t u : Nat → ByteArray} {cy : Nat → Value} (h : ByAt w b ry t n cy) (hB : Below w.heap.size w w1) (ho : w1.ownsRow w.heap.size 9 1 v m (scells u m)) :
    ByAt (w1.setCell ⟨b, 0, none⟩ v) b v u m cy ∧ Touch (fun k => k = b) w (w1.setCell ⟨b, 0, none⟩ v) ∧ ∀ g, v.ownBlock = some g → w.heap.size ≤ g := by
  have hlt := World.rowIs.lt h.1
  refine ⟨⟨((h.below hB).1.set 0 v).congr (fun i hi => ?_), ?_⟩, ?_, fun g e => (ho.lt g e).1⟩
  · by_cases e : i = 0
    · rw [if_pos e, if_pos e]
    · rw [if_neg e, if_neg e, if_neg e]
  · have h2 : (w1.setCell ⟨b, 0, none⟩ v).ownsRow w.heap.size 9 1 v m (scells u m) := ownsRow_setCell_below ho hlt _
    refine ⟨h2.1, ?_⟩
    rcases h2.2 with e | ⟨g, cap, cur, e1, _, r⟩
    · exact .inl e
    · exact .inr ⟨g, cap, cur, e1, Nat.zero_le _, r⟩
  · have ht : Touch (fun k => k = b) w w1 := ⟨hB.os, hB.tape, hB.output, hB.size, fun k hk _ => hB.block k hk⟩
    exact ht.set ⟨b, 0, none⟩ v (.inl rfl)

set_option maxRecDepth 20000 in
set_option maxHeartbeats 4000000 in
theorem radd_ok (w : World) (b n : Nat) (ry : Value) (t : Nat → ByteArray) (cy : Nat → Value) (s : ByteArray) (p : Nat) (h : ByAt w b ry t n cy) (hn : n ≤ 60) (hs : s.size ≤ maxLen) (hsr : SrtB t n) (hp : IsPl t n s p) :
    Calls Tryz.prog 43 #[.pointer (some ⟨b, 0, none⟩), .string s] w fun e w' => e = .returned (.tuple #[.bool (addOk t n s p), .int .i64 (addErr t n s p)]) ∧ ∃ ry', ByAt w' b ry' (addT t n s p) (addN t n s p) cy ∧ Touch (fun k => k = b) w w' ∧ ∀ g, ry'.ownBlock = some g → ry.ownBlock = some g ∨ w.heap.size ≤ g := by
  obtain ⟨i0, hi0, hz0, hz01, hz02⟩ := info_parts Tryz.infoS
  have HT := isText_ok s 12 w hs (by omega)
  have HH := rhas_ok w b n ry t cy s h hn
  rw [hp.hasB_eq hsr] at HH
  have hle := hp.le
  cases htu : tuneB s with
  | false =>
    rw [show (decide (s.size ≤ 12) && textTo s s.size) = false from htu] at HT
    have e1 : addOk t n s p = false := by simp [addOk, htu]
    have e2 : addErr t n s p = 7 := by simp [addErr, htu]
    rw [addT, addN, e1, e2]
    have HF : Hid (ByAt w b ry t n cy) := h
    clear h e1 e2
    go_enter Tryz.func43, Tryz.ntmps43
    go_wp2_with (go_at_call 61; refine HT.mono ?_; rintro e w' ⟨rfl, hw'⟩; obtain rfl : w = w' := hw'.symm)
    go_ret2
    exact ⟨rfl, _, HF.out, Touch.refl _ _, fun g e => .inl e⟩
  | true =>
    rw [show (decide (s.size ≤ 12) && textTo s s.size) = true from htu] at HT
    have c0 := h.row
    have f0 := h.frozen
    have HFR : Hid (ByAt w b ry t n cy) := h
    obtain ⟨a, cap, rfl, hsh⟩ := h.shape
    by_cases hst : p < n ∧ t p = s
    · rw [show decide (p < n ∧ t p = s) = true by simp [hst]] at HH
      have e1 : addOk t n s p = false := by simp [addOk, hst]
      have e2 : addErr t n s p = 0 := by simp [addErr, htu, hst]
      rw [addT, addN, e1, e2]
      clear h e1 e2 hp hst
      go_enter Tryz.func43, Tryz.ntmps43
      go_wp2_with (first
        | (go_at_call 61; refine HT.mono ?_; rintro e w' ⟨rfl, hw'⟩; obtain rfl : w = w' := hw'.symm)
        | (go_at_call 84; refine HH.mono ?_; rintro e w' ⟨rfl, hw'⟩; obtain rfl : w = w' := hw'.symm))
      go_ret2
      exact ⟨rfl, _, HFR.out, Touch.refl _ _, fun g e => .inl e⟩
    · rw [show decide (p < n ∧ t p = s) = false by simp [hst]] at HH
      by_cases h60 : n < 60
      · have e1 : addOk t n s p = true := by simp only [addOk, htu, hst, h60, decide_false, decide_true, Bool.not_false, Bool.and_self]
        have e2 : addErr t n s p = 0 := by simp only [addErr, htu, hst, h60, if_true, if_false]
        rw [addT, addN, e1, e2]
        have q60 : ((n : Int) == 60) = false := by simp; omega
        have HPL : Hid (IsPl t n s p) := hp
        have HSR : Hid (SrtB t n) := hsr
        have HST : Hid (¬ (p < n ∧ t p = s)) := hst
        clear h e1 e2 hp hst hsr
        go_enter Tryz.func43, Tryz.ntmps43
        go_wp2_with (first
          | (go_at_call 61; refine HT.mono ?_; rintro e w' ⟨rfl, hw'⟩; obtain rfl : w = w' := hw'.symm)
          | (go_at_call 84; refine HH.mono ?_; rintro e w' ⟨rfl, hw'⟩; obtain rfl : w = w' := hw'.symm))
        go_loopw [8, 9, 10] (fun l' in' i' wr => ∃ i : Nat, i ≤ n ∧ i' = .int .i64 (i : Int) ∧ in' = .bool (decide (p < i)) ∧ Below w.heap.size w wr ∧ wr.ownsRow w.heap.size 9 1 l' (if p < i then i + 1 else i) (scells (ins t p s) (if p < i then i + 1 else i))) (fun _ _ i' _ => n - (intOf i').toNat)
        case atStart => exact ⟨0, by omega, rfl, by simp, Below.refl _ _, World.ownsRow_nil _ _ _ _⟩
        case round =>
          obtain ⟨i, hi, rfl, rfl, hb, hown⟩ := hrel
          have hbs := hb.size
          have c1 : wr.cell? ⟨b, 0, none⟩ = some (.slice a n cap) := (bcell hb).1 b 0 (lt_of_cell c0) |>.trans c0
          have f1 : wr.frozen? ⟨b, 0, none⟩ = false := (bcell hb).2 b 0 (lt_of_cell c0) |>.trans f0
          have HB : Hid (Below w.heap.size w wr) := hb
          by_cases hlt : i < n
          · obtain ⟨g, rfl, hc⟩ := hsh (by omega)
            have c2 : wr.cell? ⟨g, i, none⟩ = some (.string (t i)) := (bcell hb).1 g i (lt_of_cell (hc i hlt)) |>.trans (hc i hlt)
            have q1 : (i : Int) < (n : Int) := by omega
            by_cases hip : i < p
            · have q2 : decide (p < i) = false := by simp; omega
              have q3 : Op.bytesLess s.toList (t i).toList = false := less_asymm (HPL.out.lo i hip)
              rw [if_neg (by omega)] at hown
              rw [q2]
              have hna := hown.alloc (.cells #[.string (t i)] 9)
              have HOW : Hid (∀ x, (u8 : Value).ownBlock = some x → w.heap.size ≤ x) := fun x e => (hown.lt x e).1
              clear hown hb HFR c0 f0 hsh hc HH HT q2
              go_wp2_with (at_builtin; refine wpList_append_fresh _ rfl _ _ 56 rfl w.heap.size 9 i0 (.string ByteArray.empty) 1 16 Tryz.underlying56 hi0 hz0 hz01 hz02 rfl (by decide) _ (i) (scells (ins t p s) i) rfl hna ⟨wr.heap.size, 0, none⟩ 1 1 [.string (t i)] rfl rfl (cell_one_new _ _ _) (by intro u hu; simp at hu; subst hu; rfl) (by decide) (by unfold maxLen; omega) (by omega) (by simp; omega) ?_; intro gA capA wnA hown3 hgr hfr; have HOA : Hid (wnA.ownsRow w.heap.size 9 1 (.slice (some ⟨gA, 0, none⟩) ((i) + 1) capA) ((i) + 1) ((scells (ins t p s) i) ++ [.string (t i)])) := hown3; have HGA : Hid ((wr.alloc (.cells #[.string (t i)] 9)).grownBy wnA (u8).ownBlock) := hgr; have HFA : Hid ((u8).ownBlock = some gA ∨ gA = (wr.alloc (.cells #[.string (t i)] 9)).heap.size) := hfr; clear hown3 hgr hfr hna)
              go_roundw
              case rel =>
                have ho := HOA.out
                rw [← ins_lt t s hip, scells_snoc] at ho
                refine ⟨i + 1, by omega, by go_num, by simp; omega, (HB.out.alloc (by omega) _).grown HGA.out (by simp; omega) (fun x e => HOW.out x e), ?_⟩
                rw [if_neg (by omega)]
                exact ho
              case measure => simp [intOf]; omega
            · by_cases hie : i = p
              · have q2 : decide (p < i) = false := by simp; omega
                have q3 : Op.bytesLess s.toList (t i).toList = true := HPL.out.gt HSR.out HST.out i (by omega) hlt
                rw [if_neg (by omega)] at hown
                rw [q2]
                subst hie
                have hna := hown.alloc (.cells #[.string s] 9)
                have HOW : Hid (∀ x, (u8 : Value).ownBlock = some x → w.heap.size ≤ x) := fun x e => (hown.lt x e).1
                have C0 : Hid (w.cell? ⟨b, 0, none⟩ = some (.slice (some ⟨g, 0, none⟩) n cap)) := c0
                have C2 : Hid (w.cell? ⟨g, i, none⟩ = some (.string (t i))) := hc i hlt
                clear hown hb HFR c0 f0 hsh hc HH HT q2 hip
                go_wp2_with (first
                  | (at_builtin; refine wpList_append_fresh _ rfl _ _ 56 rfl w.heap.size 9 i0 (.string ByteArray.empty) 1 16 Tryz.underlying56 hi0 hz0 hz01 hz02 rfl (by decide) _ (i) (scells (ins t i s) i) rfl hna ⟨wr.heap.size, 0, none⟩ 1 1 [.string (s)] rfl rfl (cell_one_new _ _ _) (by intro u hu; simp at hu; subst hu; rfl) (by decide) (by unfold maxLen; omega) (by omega) (by simp; omega) ?_; intro gA capA wnA hown3 hgr hfr; have HOA : Hid (wnA.ownsRow w.heap.size 9 1 (.slice (some ⟨gA, 0, none⟩) ((i) + 1) capA) ((i) + 1) ((scells (ins t i s) i) ++ [.string (s)])) := hown3; have HGA : Hid ((wr.alloc (.cells #[.string (s)] 9)).grownBy wnA (u8).ownBlock) := hgr; have HFA : Hid ((u8).ownBlock = some gA ∨ gA = (wr.alloc (.cells #[.string (s)] 9)).heap.size) := hfr; clear hown3 hgr hfr hna; have hnb := HOA.out.alloc (.cells #[.string (t i)] 9); have hbA := (HB.out.alloc (by omega) (.cells #[.string s] 9)).grown HGA.out (by simp; omega) (fun x e => HOW.out x e); have hsA := hbA.size; have c1A : wnA.cell? ⟨b, 0, none⟩ = some (.slice (some ⟨g, 0, none⟩) n cap) := ((bcell hbA).1 b 0 (lt_of_cell C0.out)).trans C0.out; have c2A : wnA.cell? ⟨g, i, none⟩ = some (.string (t i)) := ((bcell hbA).1 g i (lt_of_cell C2.out)).trans C2.out; have HBA : Hid (Below w.heap.size w wnA) := hbA; have HOWA : Hid (∀ x, (Value.slice (some ⟨gA, 0, none⟩) (i + 1) capA).ownBlock = some x → w.heap.size ≤ x) := (fun x e => (HOA.out.lt x e).1); clear hbA)
                  | (at_builtin; refine wpList_append_fresh _ rfl _ _ 56 rfl w.heap.size 9 i0 (.string ByteArray.empty) 1 16 Tryz.underlying56 hi0 hz0 hz01 hz02 rfl (by decide) _ ((i + 1)) (scells (ins t i s) i ++ [Value.string s]) rfl hnb ⟨wnA.heap.size, 0, none⟩ 1 1 [.string (t i)] rfl rfl (cell_one_new _ _ _) (by intro u hu; simp at hu; subst hu; rfl) (by decide) (by unfold maxLen; omega) (by omega) (by simp; omega) ?_; intro gB capB wnB hown3 hgr hfr; have HOB : Hid (wnB.ownsRow w.heap.size 9 1 (.slice (some ⟨gB, 0, none⟩) (((i + 1)) + 1) capB) (((i + 1)) + 1) ((scells (ins t i s) i ++ [Value.string s]) ++ [.string (t i)])) := hown3; have HGB : Hid ((wnA.alloc (.cells #[.string (t i)] 9)).grownBy wnB ((Value.slice (some ⟨gA, 0, none⟩) (i + 1) capA)).ownBlock) := hgr; have HFB : Hid (((Value.slice (some ⟨gA, 0, none⟩) (i + 1) capA)).ownBlock = some gB ∨ gB = (wnA.alloc (.cells #[.string (t i)] 9)).heap.size) := hfr; clear hown3 hgr hfr hnb))
                go_roundw
                case rel =>
                  have ho := HOB.out
                  rw [show (Value.string s) = .string (ins t i s i) by rw [ins_at], scells_snoc, ← ins_gt t s (Nat.le_refl i), scells_snoc] at ho
                  refine ⟨i + 1, by omega, by go_num, by simp, (HBA.out.alloc (by omega) _).grown HGB.out (by simp; omega) (fun x e => HOWA.out x e), ?_⟩
                  rw [if_pos (by omega)]
                  exact ho
                case measure => simp [intOf]; omega
              · have q2 : decide (p < i) = true := by simp; omega
                rw [if_pos (by omega)] at hown
                rw [q2]
                have hna := hown.alloc (.cells #[.string (t i)] 9)
                have HOW : Hid (∀ x, (u8 : Value).ownBlock = some x → w.heap.size ≤ x) := fun x e => (hown.lt x e).1
                clear hown hb HFR c0 f0 hsh hc HH HT q2
                go_wp2_with (at_builtin; refine wpList_append_fresh _ rfl _ _ 56 rfl w.heap.size 9 i0 (.string ByteArray.empty) 1 16 Tryz.underlying56 hi0 hz0 hz01 hz02 rfl (by decide) _ ((i + 1)) (scells (ins t p s) (i + 1)) rfl hna ⟨wr.heap.size, 0, none⟩ 1 1 [.string (t i)] rfl rfl (cell_one_new _ _ _) (by intro u hu; simp at hu; subst hu; rfl) (by decide) (by unfold maxLen; omega) (by omega) (by simp; omega) ?_; intro gA capA wnA hown3 hgr hfr; have HOA : Hid (wnA.ownsRow w.heap.size 9 1 (.slice (some ⟨gA, 0, none⟩) (((i + 1)) + 1) capA) (((i + 1)) + 1) ((scells (ins t p s) (i + 1)) ++ [.string (t i)])) := hown3; have HGA : Hid ((wr.alloc (.cells #[.string (t i)] 9)).grownBy wnA (u8).ownBlock) := hgr; have HFA : Hid ((u8).ownBlock = some gA ∨ gA = (wr.alloc (.cells #[.string (t i)] 9)).heap.size) := hfr; clear hown3 hgr hfr hna)
                go_roundw
                case rel =>
                  have ho := HOA.out
                  rw [← ins_gt t s (show p ≤ i by omega), scells_snoc] at ho
                  refine ⟨i + 1, by omega, by go_num, by simp; omega, (HB.out.alloc (by omega) _).grown HGA.out (by simp; omega) (fun x e => HOW.out x e), ?_⟩
                  rw [if_pos (by omega)]
                  exact ho
                case measure => simp [intOf]; omega
          · have e : i = n := by omega
            have q1 : ¬ (i : Int) < (n : Int) := by omega
            subst e
            by_cases hpn : p < i
            · have q2 : decide (p < i) = true := by simp; omega
              rw [if_pos hpn] at hown
              rw [q2]
              obtain ⟨al, cl, rfl, _⟩ := ownsRow_shape hown
              have HO : Hid (wr.ownsRow w.heap.size 9 1 (.slice al (i + 1) cl) (i + 1) (scells (ins t p s) (i + 1))) := hown
              clear hown hb hsh HH HT q2 c0 f0
              go_wp2_with fail
              go_ret2
              obtain ⟨x1, x2, x3⟩ := HFR.out.put HB.out HO.out
              exact ⟨rfl, _, x1, x2, fun g e => .inr (x3 g e)⟩
            · have e : p = i := by omega
              have q2 : decide (p < i) = false := by simp; omega
              rw [if_neg (by omega)] at hown
              rw [q2]
              subst e
              have hna := hown.alloc (.cells #[.string s] 9)
              have HOW : Hid (∀ x, (u8 : Value).ownBlock = some x → w.heap.size ≤ x) := fun x e => (hown.lt x e).1
              have C0 : Hid (w.cell? ⟨b, 0, none⟩ = some (.slice a p cap)) := c0
              have F0 : Hid (w.frozen? ⟨b, 0, none⟩ = false) := f0
              clear hown hb hsh HH HT q2 c0 f0
              go_wp2_with (at_builtin; refine wpList_append_fresh _ rfl _ _ 56 rfl w.heap.size 9 i0 (.string ByteArray.empty) 1 16 Tryz.underlying56 hi0 hz0 hz01 hz02 rfl (by decide) _ (p) (scells (ins t p s) p) rfl hna ⟨wr.heap.size, 0, none⟩ 1 1 [.string (s)] rfl rfl (cell_one_new _ _ _) (by intro u hu; simp at hu; subst hu; rfl) (by decide) (by unfold maxLen; omega) (by omega) (by simp; omega) ?_; intro gA capA wnA hown3 hgr hfr; have HOA : Hid (wnA.ownsRow w.heap.size 9 1 (.slice (some ⟨gA, 0, none⟩) ((p) + 1) capA) ((p) + 1) ((scells (ins t p s) p) ++ [.string (s)])) := hown3; have HGA : Hid ((wr.alloc (.cells #[.string (s)] 9)).grownBy wnA (u8).ownBlock) := hgr; have HFA : Hid ((u8).ownBlock = some gA ∨ gA = (wr.alloc (.cells #[.string (s)] 9)).heap.size) := hfr; clear hown3 hgr hfr hna; have hbA := (HB.out.alloc (by omega) (.cells #[.string s] 9)).grown HGA.out (by simp; omega) (fun x e => HOW.out x e); have c1A : wnA.cell? ⟨b, 0, none⟩ = some (.slice a p cap) := ((bcell hbA).1 b 0 (lt_of_cell C0.out)).trans C0.out; have f1A : wnA.frozen? ⟨b, 0, none⟩ = false := ((bcell hbA).2 b 0 (lt_of_cell C0.out)).trans F0.out; clear hbA)
              go_ret2
              have ho := HOA.out
              rw [show (Value.string s) = .string (ins t p s p) by rw [ins_at], scells_snoc] at ho
              obtain ⟨x1, x2, x3⟩ := HFR.out.put ((HB.out.alloc (by omega) _).grown HGA.out (by simp; omega) (fun x e => HOW.out x e)) ho
              exact ⟨rfl, _, x1, x2, fun g e => .inr (x3 g e)⟩
      · have e1 : addOk t n s p = false := by simp [addOk, h60]
        have e2 : addErr t n s p = 9 := by simp only [addErr, htu, hst, h60, if_true, if_false]
        rw [addT, addN, e1, e2]
        have q60 : ((n : Int) == 60) = true := by simp; omega
        clear h e1 e2 hp hst
        go_enter Tryz.func43, Tryz.ntmps43
        go_wp2_with (first
          | (go_at_call 61; refine HT.mono ?_; rintro e w' ⟨rfl, hw'⟩; obtain rfl : w = w' := hw'.symm)
          | (go_at_call 84; refine HH.mono ?_; rintro e w' ⟨rfl, hw'⟩; obtain rfl : w = w' := hw'.symm))
        go_ret2
        exact ⟨rfl, _, HFR.out, Touch.refl _ _, fun g e => .inl e⟩

/-- What is left when one text goes: K tells how many of the first i are left. -/
structure Left (t : Nat → ByteArray) (n : Nat) (s : ByteArray) (u : Nat → ByteArray) (K : Nat → Nat) : Prop where
  zero : K 0 = 0
  step : ∀ i, i < n → (t i = s ∧ K (i + 1) = K i) ∨ (t i ≠ s ∧ K (i + 1) = K i + 1 ∧ u (K i) = t i)
theorem Left.le {t : Nat → ByteArray} {n : Nat} {s : ByteArray} {u : Nat → ByteArray} {K : Nat → Nat} (h : Left t n s u K) : ∀ i, i ≤ n → K i ≤ i
  | 0, _ => by rw [h.zero]; omega
  | i + 1, hi => by
    have := h.le i (by omega)
    rcases h.step i (by omega) with ⟨_, e⟩ | ⟨_, e, _⟩ <;> omega
theorem left_no {t : Nat → ByteArray} {n : Nat} {s : ByteArray} (h : ∀ j, j < n → t j ≠ s) : Left t n s t (fun i => i) := ⟨rfl, fun i hi => .inr ⟨h i hi, rfl, rfl⟩⟩
theorem left_yes {t : Nat → ByteArray} {n p : Nat} {s : ByteArray} (hs : SrtB t n) (hp : p < n) (e : t p = s) : Left t n s (del t p) (fun i => if p < i then i - 1 else i) := by
  refine ⟨by simp, fun i hi => ?_⟩
  by_cases h1 : i < p
  · refine .inr ⟨fun e' => less_ne (hs i p h1 hp) (by rw [e', e]), ?_, ?_⟩
    · simp only [if_neg (show ¬ p < i + 1 by omega), if_neg (show ¬ p < i by omega)]
    · simp only [if_neg (show ¬ p < i by omega), del, if_pos h1]
  · by_cases h2 : i = p
    · subst h2
      exact .inl ⟨e, by simp⟩
    · refine .inr ⟨fun e' => less_ne (hs p i (by omega) hi) (by rw [e', e]), ?_, ?_⟩
      · simp only [if_pos (show p < i + 1 by omega), if_pos (show p < i by omega)]; omega
      · simp only [if_pos (show p < i by omega), del, if_neg (show ¬ i - 1 < p by omega)]
        congr 1; omega

set_option maxRecDepth 20000 in
set_option maxHeartbeats 4000000 in
theorem rdropL_ok (w : World) (b n : Nat) (ry : Value) (t : Nat → ByteArray) (cy : Nat → Value) (s : ByteArray) (u : Nat → ByteArray) (K : Nat → Nat) (h : ByAt w b ry t n cy) (hn : n ≤ 60) (hs : s.size ≤ maxLen) (htu : tuneB s = true) (hL : Left t n s u K) :
    Calls Tryz.prog 45 #[.pointer (some ⟨b, 0, none⟩), .string s] w fun e w' => e = .returned (.tuple #[.bool (hasB t n s), .int .i64 0]) ∧ ∃ ry', ByAt w' b ry' u (K n) cy ∧ Touch (fun k => k = b) w w' ∧ ∀ g, ry'.ownBlock = some g → w.heap.size ≤ g := by
  obtain ⟨i0, hi0, hz0, hz01, hz02⟩ := info_parts Tryz.infoS
  have HT := isText_ok s 12 w hs (by omega)
  have HH := rhas_ok w b n ry t cy s h hn
  rw [show (decide (s.size ≤ 12) && textTo s s.size) = true from htu] at HT
  obtain ⟨bb, HBB⟩ : ∃ x, Hid (hasB t n s = x) := ⟨_, rfl⟩
  rw [HBB.out] at HH ⊢
  have c0 := h.row
  have f0 := h.frozen
  have HFR : Hid (ByAt w b ry t n cy) := h
  obtain ⟨a, cap, rfl, hsh⟩ := h.shape
  have HLL : Hid (Left t n s u K) := hL
  clear h hL
  go_enter Tryz.func45, Tryz.ntmps45
  go_wp2_with (first
    | (go_at_call 61; refine HT.mono ?_; rintro e w' ⟨rfl, hw'⟩; obtain rfl : w = w' := hw'.symm)
    | (go_at_call 84; refine HH.mono ?_; rintro e w' ⟨rfl, hw'⟩; obtain rfl : w = w' := hw'.symm))
  go_loopw [8, 9] (fun l' i' wr => ∃ i : Nat, i ≤ n ∧ i' = .int .i64 (i : Int) ∧ Below w.heap.size w wr ∧ wr.ownsRow w.heap.size 9 1 l' (K i) (scells u (K i))) (fun _ i' _ => n - (intOf i').toNat)
  case atStart => exact ⟨0, by omega, rfl, Below.refl _ _, by rw [HLL.out.zero]; exact World.ownsRow_nil _ _ _ _⟩
  case round =>
    obtain ⟨i, hi, rfl, hb, hown⟩ := hrel
    have hbs := hb.size
    have hKi := HLL.out.le i hi
    have c1 : wr.cell? ⟨b, 0, none⟩ = some (.slice a n cap) := (bcell hb).1 b 0 (lt_of_cell c0) |>.trans c0
    have f1 : wr.frozen? ⟨b, 0, none⟩ = false := (bcell hb).2 b 0 (lt_of_cell c0) |>.trans f0
    have HB : Hid (Below w.heap.size w wr) := hb
    by_cases hlt : i < n
    · obtain ⟨g, rfl, hc⟩ := hsh (by omega)
      have c2 : wr.cell? ⟨g, i, none⟩ = some (.string (t i)) := (bcell hb).1 g i (lt_of_cell (hc i hlt)) |>.trans (hc i hlt)
      have q1 : (i : Int) < (n : Int) := by omega
      rcases HLL.out.step i hlt with ⟨e, eK⟩ | ⟨e, eK, eu⟩
      · have q2 : ((t i).toList == s.toList) = true := by rw [beq_str]; simp [e]
        have HO : Hid (wr.ownsRow w.heap.size 9 1 u8 (K i) (scells u (K i))) := hown
        have HEK : Hid (K (i + 1) = K i) := eK
        clear hown hb HFR c0 f0 hsh hc HH HT e eK
        go_wp2_with fail
        go_roundw
        case rel => exact ⟨i + 1, by omega, by go_num, HB.out, by rw [HEK.out]; exact HO.out⟩
        case measure => simp [intOf]; omega
      · have q2 : ((t i).toList == s.toList) = false := by rw [beq_str]; simp [e]
        have hna := hown.alloc (.cells #[.string (t i)] 9)
        have HOW : Hid (∀ x, (u8 : Value).ownBlock = some x → w.heap.size ≤ x) := fun x e => (hown.lt x e).1
        have HEK : Hid (K (i + 1) = K i + 1) := eK
        have HEU : Hid (u (K i) = t i) := eu
        clear hown hb HFR c0 f0 hsh hc HH HT e eK eu
        go_wp2_with (at_builtin; refine wpList_append_fresh _ rfl _ _ 56 rfl w.heap.size 9 i0 (.string ByteArray.empty) 1 16 Tryz.underlying56 hi0 hz0 hz01 hz02 rfl (by decide) _ (K i) (scells u (K i)) rfl hna ⟨wr.heap.size, 0, none⟩ 1 1 [.string (t i)] rfl rfl (cell_one_new _ _ _) (by intro u hu; simp at hu; subst hu; rfl) (by decide) (by unfold maxLen; omega) (by omega) (by simp; omega) ?_; intro gA capA wnA hown3 hgr hfr; have HOA : Hid (wnA.ownsRow w.heap.size 9 1 (.slice (some ⟨gA, 0, none⟩) ((K i) + 1) capA) ((K i) + 1) ((scells u (K i)) ++ [.string (t i)])) := hown3; have HGA : Hid ((wr.alloc (.cells #[.string (t i)] 9)).grownBy wnA (u8).ownBlock) := hgr; have HFA : Hid ((u8).ownBlock = some gA ∨ gA = (wr.alloc (.cells #[.string (t i)] 9)).heap.size) := hfr; clear hown3 hgr hfr hna)
        go_roundw
        case rel =>
          have ho := HOA.out
          rw [← HEU.out, scells_snoc] at ho
          refine ⟨i + 1, by omega, by go_num, (HB.out.alloc (by omega) _).grown HGA.out (by simp; omega) (fun x e => HOW.out x e), ?_⟩
          rw [HEK.out]
          exact ho
        case measure => simp [intOf]; omega
    · have e : i = n := by omega
      have q1 : ¬ (i : Int) < (n : Int) := by omega
      subst e
      obtain ⟨al, cl, rfl, _⟩ := ownsRow_shape hown
      have HO : Hid (wr.ownsRow w.heap.size 9 1 (.slice al (K i) cl) (K i) (scells u (K i))) := hown
      clear hown hb hsh HH HT c0 f0
      go_wp2_with fail
      go_ret2
      obtain ⟨x1, x2, x3⟩ := HFR.out.put HB.out HO.out
      exact ⟨rfl, _, x1, x2, x3⟩

set_option maxRecDepth 20000 in
set_option maxHeartbeats 1000000 in
theorem rdrop_ok (w : World) (b n : Nat) (ry : Value) (t : Nat → ByteArray) (cy : Nat → Value) (s : ByteArray) (p : Nat) (h : ByAt w b ry t n cy) (hn : n ≤ 60) (hs : s.size ≤ maxLen) (hsr : SrtB t n) (hp : IsPl t n s p) :
    Calls Tryz.prog 45 #[.pointer (some ⟨b, 0, none⟩), .string s] w fun e w' => e = .returned (.tuple #[.bool (dropOk t n s p), .int .i64 (dropErr s)]) ∧ ∃ ry', ByAt w' b ry' (dropT t n s p) (dropN t n s p) cy ∧ Touch (fun k => k = b) w w' ∧ ∀ g, ry'.ownBlock = some g → ry.ownBlock = some g ∨ w.heap.size ≤ g := by
  cases htu : tuneB s with
  | false =>
    have HT := isText_ok s 12 w hs (by omega)
    rw [show (decide (s.size ≤ 12) && textTo s s.size) = false from htu] at HT
    have e1 : dropOk t n s p = false := by simp [dropOk, htu]
    have e2 : dropErr s = 7 := by simp [dropErr, htu]
    rw [dropT, dropN, e1, e2]
    have HF : Hid (ByAt w b ry t n cy) := h
    clear h e1 e2
    go_enter Tryz.func45, Tryz.ntmps45
    go_wp2_with (go_at_call 61; refine HT.mono ?_; rintro e w' ⟨rfl, hw'⟩; obtain rfl : w = w' := hw'.symm)
    go_ret2
    exact ⟨rfl, _, HF.out, Touch.refl _ _, fun g e => .inl e⟩
  | true =>
    have e2 : dropErr s = 0 := by simp [dropErr, htu]
    have e1 : dropOk t n s p = decide (p < n ∧ t p = s) := by simp only [dropOk, htu, Bool.true_and]
    rw [dropT, dropN, e1, e2, ← hp.hasB_eq hsr]
    by_cases hst : p < n ∧ t p = s
    · have hh : hasB t n s = true := by rw [hp.hasB_eq hsr]; simp [hst]
      refine (rdropL_ok w b n ry t cy s _ _ h hn hs htu (left_yes hsr hst.1 hst.2)).mono ?_
      rintro e w' ⟨rfl, ry', x1, x2, x3⟩
      refine ⟨rfl, ry', ?_, x2, fun g e => .inr (x3 g e)⟩
      simp only [if_pos hst.1] at x1
      simp only [hh, if_true]
      exact x1
    · have hh : hasB t n s = false := by rw [hp.hasB_eq hsr]; simp [hst]
      refine (rdropL_ok w b n ry t cy s _ _ h hn hs htu (left_no (fun j hj e => hst ((hp.stands hsr).1 ⟨j, hj, e⟩)))).mono ?_
      rintro e w' ⟨rfl, ry', x1, x2, x3⟩
      refine ⟨rfl, ry', ?_, x2, fun g e => .inr (x3 g e)⟩
      simp only [hh, Bool.false_eq_true, if_false]
      exact x1
end Go.Proofs.YtpngikmcjkjdaaaGreatDoor
