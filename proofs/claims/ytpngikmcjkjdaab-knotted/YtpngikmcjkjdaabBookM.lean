import Derived.Test.YtpngikmcjkjdaabBookP
import Derived.Test.YtpngikmcjkjdaabTune
import Derived.Test.YtpngikmcjkjdaabWide
import Derived.Deep.OwnRows
import Derived.Deep.Upon
import Derived.Deep.QuietTactic
import Derived.BigQuiet
namespace Go.Proofs.Ytpngikmcjkjdaab
open Go.RowKit
set_option linter.unusedVariables false
set_option linter.unusedSimpArgs false

/-- The program's book: sixty texts, how many there are, and what its cursors hold. -/
def bookv (t : Nat → ByteArray) (n : Nat) (cx : Nat → Value) : Nat → Value := fun i => if i < 60 then .string (if i < n then t i else ByteArray.empty) else if i = 60 then .int .i64 (n : Int) else cx (i - 61)
def BxAt (w : World) (bx : Nat) (t : Nat → ByteArray) (n : Nat) (cx : Nat → Value) : Prop := w.rowIs bx 79 81 (bookv t n cx)
section
variable {w : World} {bx n : Nat} {t : Nat → ByteArray} {cx : Nat → Value}
theorem BxAt.cnt (h : BxAt w bx t n cx) : w.cell? ⟨bx, 60, none⟩ = some (.int .i64 (n : Int)) := by
  have := World.rowIs.cell h (i := 60) (by omega)
  simpa [bookv] using this
theorem BxAt.all (h : BxAt w bx t n cx) {i : Nat} (hi : i < 60) : w.cell? ⟨bx, i, none⟩ = some (.string (if i < n then t i else ByteArray.empty)) := by
  have := World.rowIs.cell h (i := i) (by omega)
  rw [this]
  simp [bookv, hi]
theorem BxAt.tune (h : BxAt w bx t n cx) (hn : n ≤ 60) {i : Nat} (hi : i < n) : w.cell? ⟨bx, i, none⟩ = some (.string (t i)) := by
  rw [h.all (by omega), if_pos hi]
theorem BxAt.drewN (h : BxAt w bx t n cx) (q : Nat) : BxAt (w.drewN q) bx t n cx := h
end

set_option maxRecDepth 20000 in
set_option maxHeartbeats 1000000 in
theorem place_ok (w : World) (bx n : Nat) (t : Nat → ByteArray) (cx : Nat → Value) (s : ByteArray) (p : Nat) (h : BxAt w bx t n cx) (hn : n ≤ 60) (hpl : IsPl t n s p) :
    Calls Try.prog 61 #[.pointer (some ⟨bx, 0, none⟩), .string s] w fun e w' => e = .returned (.int .i64 (p : Int)) ∧ w' = w := by
  have c1 := h.cnt
  have hle := hpl.le
  go_enter Try.func61, Try.ntmps61
  go_wp2_with fail
  go_loop [5] (fun v => ∃ i : Nat, i ≤ p ∧ v = .int .i64 (i : Int)) (fun v => n - (intOf v).toNat)
  case atStart => exact ⟨0, by omega, rfl⟩
  case round =>
    obtain ⟨i, hi, rfl⟩ := hrel
    by_cases hlt : i < n
    · have c2 := h.tune hn hlt
      have hi2 : (i : Int) < (n : Int) := by omega
      by_cases hb : i < p
      · have hb1 : Op.bytesLess (t i).toList s.toList = true := hpl.lo i hb
        clear h hpl
        go_wp2_with fail
        go_round
        case rel => exact ⟨i + 1, by omega, by go_num⟩
        case measure => simp [intOf]; omega
      · have e : i = p := by omega
        subst e
        have hb1 : Op.bytesLess (t i).toList s.toList = false := hpl.at' hlt
        clear h hpl
        go_wp2_with fail
        go_ret
        exact ⟨rfl, rfl⟩
    · have e : i = p := by omega
      subst e
      have hi2 : ¬ (i : Int) < (n : Int) := by omega
      clear h hpl
      go_wp2_with fail
      go_ret
      exact ⟨rfl, rfl⟩

set_option maxRecDepth 20000 in
set_option maxHeartbeats 1000000 in
theorem standsAt_ok (w : World) (bx n : Nat) (t : Nat → ByteArray) (cx : Nat → Value) (s : ByteArray) (p : Nat) (h : BxAt w bx t n cx) (hn : n ≤ 60) :
    Calls Try.prog 62 #[.pointer (some ⟨bx, 0, none⟩), .int .i64 (p : Int), .string s] w fun e w' => e = .returned (.bool (decide (p < n ∧ t p = s))) ∧ w' = w := by
  have c1 := h.cnt
  by_cases hlt : p < n
  · have c2 := h.tune hn hlt
    have hi : (p : Int) < (n : Int) := by omega
    by_cases hb : t p = s
    · have hb1 : ((t p).toList == s.toList) = true := by rw [beq_str]; simp [hb]
      have e : decide (p < n ∧ t p = s) = true := by simp [hlt, hb]
      rw [e]
      clear hb h e
      go_enter Try.func62, Try.ntmps62
      go_wp2_with fail
      go_ret
      exact ⟨rfl, rfl⟩
    · have hb1 : ((t p).toList == s.toList) = false := by rw [beq_str]; simp [hb]
      have e : decide (p < n ∧ t p = s) = false := by simp [hb]
      rw [e]
      clear hb h e
      go_enter Try.func62, Try.ntmps62
      go_wp2_with fail
      go_ret
      exact ⟨rfl, rfl⟩
  · have hi : ¬ (p : Int) < (n : Int) := by omega
    have e : decide (p < n ∧ t p = s) = false := by simp [hlt]
    rw [e]
    clear h e
    go_enter Try.func62, Try.ntmps62
    go_wp2_with fail
    go_ret
    exact ⟨rfl, rfl⟩

theorem IsPl.uniq {t : Nat → ByteArray} {n p p' : Nat} {s : ByteArray} (h : IsPl t n s p) (h' : IsPl t n s p') : p = p' := by
  apply Nat.le_antisymm
  · apply Nat.le_of_not_lt
    intro hlt
    have := h.lo p' hlt
    rw [h'.at' (by have := h.le; omega)] at this; cases this
  · apply Nat.le_of_not_lt
    intro hlt
    have := h'.lo p hlt
    rw [h.at' (by have := h'.le; omega)] at this; cases this
theorem exists_pl (t : Nat → ByteArray) (s : ByteArray) (n : Nat) : ∃ p, IsPl t n s p := by
  induction n with
  | zero => exact ⟨0, Nat.le_refl _, fun j hj => by omega, fun h => by omega⟩
  | succ n ih =>
    obtain ⟨p, h⟩ := ih
    by_cases e : p < n
    · exact ⟨p, by omega, h.lo, fun _ => h.at' e⟩
    · have he : p = n := by have := h.le; omega
      subst he
      cases hb : less (t p) s with
      | false => exact ⟨p, by omega, h.lo, fun _ => hb⟩
      | true => exact ⟨p + 1, by omega, fun j hj => by
          by_cases e' : j = p
          · rw [e']; exact hb
          · exact h.lo j (by omega), fun h' => by omega⟩
/-- A tune: at most twelve notes. -/
def tuneB (s : ByteArray) : Bool := decide (s.size ≤ 12) && textTo s s.size
def addOk (t : Nat → ByteArray) (n : Nat) (s : ByteArray) (p : Nat) : Bool := tuneB s && !(decide (p < n ∧ t p = s)) && decide (n < 60)
def addErr (t : Nat → ByteArray) (n : Nat) (s : ByteArray) (p : Nat) : Int := if tuneB s then (if p < n ∧ t p = s then 0 else if n < 60 then 0 else 9) else 7
def addT (t : Nat → ByteArray) (n : Nat) (s : ByteArray) (p : Nat) : Nat → ByteArray := if addOk t n s p then ins t p s else t
def addN (t : Nat → ByteArray) (n : Nat) (s : ByteArray) (p : Nat) : Nat := if addOk t n s p then n + 1 else n
def dropOk (t : Nat → ByteArray) (n : Nat) (s : ByteArray) (p : Nat) : Bool := tuneB s && decide (p < n ∧ t p = s)
def dropErr (s : ByteArray) : Int := if tuneB s then 0 else 7
def dropT (t : Nat → ByteArray) (n : Nat) (s : ByteArray) (p : Nat) : Nat → ByteArray := if dropOk t n s p then del t p else t
def dropN (t : Nat → ByteArray) (n : Nat) (s : ByteArray) (p : Nat) : Nat := if dropOk t n s p then n - 1 else n
theorem touch_drewN (S : Nat → Prop) (w : World) (q : Nat) : Touch S w (w.drewN q) := by
  have hb := below_drewN (Below.refl w.heap.size w) q
  exact ⟨hb.os, hb.tape, hb.output, hb.size, fun k hk _ => hb.block k hk⟩
/-- The book while Add makes room: all behind i has moved. -/
def shiftv (t : Nat → ByteArray) (n : Nat) (cx : Nat → Value) (i : Nat) : Nat → Value := fun j => if j < 60 then .string (if i < j ∧ j ≤ n then t (j - 1) else if j < n then t j else ByteArray.empty) else bookv t n cx j

set_option maxRecDepth 20000 in
set_option maxHeartbeats 2000000 in
theorem badd_ok (w : World) (bx n : Nat) (t : Nat → ByteArray) (cx : Nat → Value) (s : ByteArray) (p : Nat) (h : BxAt w bx t n cx) (hn : n ≤ 60) (hs : s.size ≤ maxLen) (hp : IsPl t n s p) :
    Calls Try.prog 50 #[.pointer (some ⟨bx, 0, none⟩), .string s] w fun e w' => e = .returned (.tuple #[.bool (addOk t n s p), .int .i64 (addErr t n s p)]) ∧ BxAt w' bx (addT t n s p) (addN t n s p) cx ∧ Touch (fun k => k = bx) w w' := by
  have HT := isTune_ok s w hs
  have hle := hp.le
  cases htu : tuneB s with
  | false =>
    rw [show (decide (s.size ≤ 12) && textTo s s.size) = false from htu] at HT
    have e1 : addOk t n s p = false := by simp [addOk, htu]
    have e2 : addErr t n s p = 7 := by simp [addErr, htu]
    rw [addT, addN, e1, e2]
    have HF : Hid (BxAt w bx t n cx) := h
    clear h e1 e2
    go_enter Try.func50, Try.ntmps50
    go_wp2_with (go_at_call 59; refine HT.mono ?_; rintro e w' ⟨rfl, hw'⟩; obtain rfl : w = w' := hw'.symm)
    go_ret2
    exact ⟨rfl, HF.out, Touch.refl _ _⟩
  | true =>
    rw [show (decide (s.size ≤ 12) && textTo s s.size) = true from htu] at HT
    have HP := place_ok w bx n t cx s p h hn hp
    have HSt := standsAt_ok w bx n t cx s p h hn
    have HF : Hid (BxAt w bx t n cx) := h
    have HPL : Hid (IsPl t n s p) := hp
    have c1 := h.cnt
    by_cases hst : p < n ∧ t p = s
    · rw [show decide (p < n ∧ t p = s) = true by simp [hst]] at HSt
      have e1 : addOk t n s p = false := by simp [addOk, hst]
      have e2 : addErr t n s p = 0 := by simp [addErr, htu, hst]
      rw [addT, addN, e1, e2]
      clear h e1 e2 hp hst
      go_enter Try.func50, Try.ntmps50
      go_wp2_with (first
        | (go_at_call 59; refine HT.mono ?_; rintro e w' ⟨rfl, hw'⟩; obtain rfl : w = w' := hw'.symm)
        | (go_at_call 61; refine HP.mono ?_; rintro e w' ⟨rfl, hw'⟩; obtain rfl : w = w' := hw'.symm)
        | (go_at_call 62; refine HSt.mono ?_; rintro e w' ⟨rfl, hw'⟩; obtain rfl : w = w' := hw'.symm))
      go_ret2
      exact ⟨rfl, HF.out, Touch.refl _ _⟩
    · rw [show decide (p < n ∧ t p = s) = false by simp [hst]] at HSt
      by_cases h60 : n < 60
      · have e1 : addOk t n s p = true := by simp only [addOk, htu, hst, h60, decide_false, decide_true, Bool.not_false, Bool.and_self]
        have e2 : addErr t n s p = 0 := by simp only [addErr, htu, hst, h60, if_true, if_false]
        rw [addT, addN, e1, e2]
        have hlt : ¬ (60 : Int) ≤ (n : Int) := by omega
        clear h e1 e2 hp hst
        go_enter Try.func50, Try.ntmps50
        go_wp2_with (first
          | (go_at_call 59; refine HT.mono ?_; rintro e w' ⟨rfl, hw'⟩; obtain rfl : w = w' := hw'.symm)
          | (go_at_call 61; refine HP.mono ?_; rintro e w' ⟨rfl, hw'⟩; obtain rfl : w = w' := hw'.symm)
          | (go_at_call 62; refine HSt.mono ?_; rintro e w' ⟨rfl, hw'⟩; obtain rfl : w = w' := hw'.symm))
        go_loopw [7] (fun v wr => ∃ i : Nat, p ≤ i ∧ i ≤ n ∧ v = .int .i64 (i : Int) ∧ wr.rowIs bx 79 81 (shiftv t n cx i) ∧ Touch (fun k => k = bx) w wr) (fun v _ => (intOf v).toNat)
        case atStart => exact ⟨n, hle, Nat.le_refl _, rfl, HF.out.congr (fun j hj => by
          unfold shiftv
          by_cases a : j < 60
          · rw [if_pos a, if_neg (by omega), bookv, if_pos a]
          · rw [if_neg a]), Touch.refl _ _⟩
        case round =>
          obtain ⟨i, h1, h2, rfl, hr, ht⟩ := hrel
          have c60 : wr.cell? ⟨bx, 60, none⟩ = some (.int .i64 (n : Int)) := by
            have := hr.cell (i := 60) (by omega)
            rw [this]; simp [shiftv, bookv]
          have hfz := hr.frozen
          by_cases hpi : p < i
          · obtain ⟨k, rfl⟩ : ∃ k, i = k + 1 := ⟨i - 1, by omega⟩
            have hgt : (p : Int) < (k : Int) + 1 := by omega
            have c3 : wr.cell? ⟨bx, k, none⟩ = some (.string (t k)) := by
              rw [hr.cell (i := k) (by omega), shiftv, if_pos (by omega), if_neg (by omega), if_pos (by omega)]
            have c4 : ∃ x, wr.cell? ⟨bx, k + 1, none⟩ = some (.string x) := by
              rw [hr.cell (i := k + 1) (by omega), shiftv, if_pos (by omega)]
              exact ⟨_, rfl⟩
            obtain ⟨x, c4⟩ := c4
            have hf := hfz (k + 1)
            have HR : Hid (wr.rowIs bx 79 81 (shiftv t n cx (k + 1))) := hr
            have HTT : Hid (Touch (fun k => k = bx) w wr) := ht
            clear hr ht hfz HF c1 HP HSt HT
            rw [show ((k + 1 : Nat) : Int) = (k : Int) + 1 by simp]
            have hwk : IntKind.i64.wrap (k : Int) = (k : Int) := by rw [IntKind.wrap_i64]; omega
            have hwk2 : IntKind.i64.wrap ((k : Int) + 1 - 1) = (k : Int) := by rw [Int.add_sub_cancel]; exact hwk
            go_wp2_with fail
            go_region
            go_wp2_with fail
            go_roundw
            case rel =>
              refine ⟨k, by omega, by omega, by go_num, ?_, ?_⟩
              · refine (HR.out.set (k + 1) (.string (t k))).congr (fun j hj => ?_)
                unfold shiftv
                by_cases a : j < 60
                · rw [if_pos a, if_pos a]
                  by_cases e : j = k + 1
                  · subst e; rw [if_pos rfl, if_pos (by omega)]; simp
                  · rw [if_neg e]
                    by_cases b : k + 1 < j ∧ j ≤ n
                    · have b' : k < j ∧ j ≤ n := by omega
                      simp only [b, b', and_self, if_true]
                    · have b' : ¬ (k < j ∧ j ≤ n) := by omega
                      simp only [b, b', if_false]
                · rw [if_neg a, if_neg a, if_neg (by omega)]
              · have := HTT.out.set ⟨bx, k + 1, none⟩ (.string (t k)) (.inl rfl)
                exact ⟨this.os, this.tape, this.output, this.size, this.block⟩
            case measure => simp [intOf]
          · have e : p = i := by omega
            subst e
            have hgt : ¬ (p : Int) < (p : Int) := by omega
            have c4 : ∃ x, wr.cell? ⟨bx, p, none⟩ = some (.string x) := by
              rw [hr.cell (i := p) (by omega), shiftv, if_pos (by omega)]
              exact ⟨_, rfl⟩
            obtain ⟨x, c4⟩ := c4
            have hf := hfz p
            have hf2 := hfz 60
            have HR : Hid (wr.rowIs bx 79 81 (shiftv t n cx p)) := hr
            have HTT : Hid (Touch (fun k => k = bx) w wr) := ht
            have c62 : (wr.setCell ⟨bx, p, none⟩ (.string s)).cell? ⟨bx, 60, none⟩ = some (.int .i64 (n : Int)) := by
              rw [(hr.set p (.string s)).cell (i := 60) (by omega), if_neg (by omega)]
              simp [shiftv, bookv]
            have f62 : (wr.setCell ⟨bx, p, none⟩ (.string s)).frozen? ⟨bx, 60, none⟩ = false := (hr.set p (.string s)).frozen 60
            have hwn : IntKind.i64.wrap ((n : Int) + 1) = (n : Int) + 1 := by rw [IntKind.wrap_i64]; omega
            clear hr ht hfz HF c1 HP HSt HT
            go_wp2_with fail
            go_ret2
            refine ⟨rfl, ?_, ?_⟩
            · refine ((HR.out.set p (.string s)).set 60 (.int .i64 ((n : Int) + 1))).congr (fun j hj => ?_)
              unfold shiftv bookv ins
              by_cases a : j < 60
              · rw [if_neg (show ¬ j = 60 by omega), if_pos a]
                by_cases e : j = p
                · subst e; simp [a]; omega
                · rw [if_neg e, if_pos a]
                  by_cases b : j < p
                  · have b1 : ¬ (p < j ∧ j ≤ n) := by omega
                    have b2 : j < n + 1 := by omega
                    have b3 : j < n := by omega
                    simp only [b, b1, b2, b3, if_true, if_false]
                  · by_cases c : j ≤ n
                    · have b1 : p < j ∧ j ≤ n := by omega
                      have b2 : j < n + 1 := by omega
                      simp only [b, b1, b2, e, and_self, if_true, if_false]
                    · have b1 : ¬ (p < j ∧ j ≤ n) := by omega
                      have b2 : ¬ j < n + 1 := by omega
                      have b3 : ¬ j < n := by omega
                      simp only [b1, b2, b3, if_false]
              · by_cases e : j = 60
                · subst e; simp
                · have e2 : ¬ j = p := by omega
                  simp only [e, e2, a, if_false]
            · exact (HTT.out.set ⟨bx, p, none⟩ (.string s) (.inl rfl)).set ⟨bx, 60, none⟩ _ (.inl rfl)
      · have e : n = 60 := by omega
        have e1 : addOk t n s p = false := by simp [addOk, h60]
        have e2 : addErr t n s p = 9 := by simp only [addErr, htu, hst, h60, if_true, if_false]
        rw [addT, addN, e1, e2]
        have hlt : (60 : Int) ≤ (n : Int) := by omega
        clear h e1 e2 hp hst e
        go_enter Try.func50, Try.ntmps50
        go_wp2_with (first
          | (go_at_call 59; refine HT.mono ?_; rintro e w' ⟨rfl, hw'⟩; obtain rfl : w = w' := hw'.symm)
          | (go_at_call 61; refine HP.mono ?_; rintro e w' ⟨rfl, hw'⟩; obtain rfl : w = w' := hw'.symm)
          | (go_at_call 62; refine HSt.mono ?_; rintro e w' ⟨rfl, hw'⟩; obtain rfl : w = w' := hw'.symm))
        go_ret2
        exact ⟨rfl, HF.out, Touch.refl _ _⟩

/-- The book while Drop closes the gap: all as far as i has moved. -/
def closev (t : Nat → ByteArray) (n : Nat) (cx : Nat → Value) (p i : Nat) : Nat → Value := fun j => if j < 60 then .string (if p ≤ j ∧ j < i then t (j + 1) else if j < n then t j else ByteArray.empty) else if j = 60 then .int .i64 ((n : Int) - 1) else bookv t n cx j

set_option maxRecDepth 20000 in
set_option maxHeartbeats 2000000 in
theorem bdrop_ok (w : World) (bx n : Nat) (t : Nat → ByteArray) (cx : Nat → Value) (s : ByteArray) (p : Nat) (h : BxAt w bx t n cx) (hn : n ≤ 60) (hs : s.size ≤ maxLen) (hp : IsPl t n s p) :
    Calls Try.prog 44 #[.pointer (some ⟨bx, 0, none⟩), .string s] w fun e w' => e = .returned (.tuple #[.bool (dropOk t n s p), .int .i64 (dropErr s)]) ∧ BxAt w' bx (dropT t n s p) (dropN t n s p) cx ∧ Touch (fun k => k = bx) w w' := by
  have HT := isTune_ok s w hs
  have hle := hp.le
  cases htu : tuneB s with
  | false =>
    rw [show (decide (s.size ≤ 12) && textTo s s.size) = false from htu] at HT
    have e1 : dropOk t n s p = false := by simp [dropOk, htu]
    have e2 : dropErr s = 7 := by simp [dropErr, htu]
    rw [dropT, dropN, e1, e2]
    have HF : Hid (BxAt w bx t n cx) := h
    clear h e1 e2
    go_enter Try.func44, Try.ntmps44
    go_wp2_with (go_at_call 59; refine HT.mono ?_; rintro e w' ⟨rfl, hw'⟩; obtain rfl : w = w' := hw'.symm)
    go_ret2
    exact ⟨rfl, HF.out, Touch.refl _ _⟩
  | true =>
    rw [show (decide (s.size ≤ 12) && textTo s s.size) = true from htu] at HT
    have HP := place_ok w bx n t cx s p h hn hp
    have HSt := standsAt_ok w bx n t cx s p h hn
    have HF : Hid (BxAt w bx t n cx) := h
    have c1 := h.cnt
    have f1 := World.rowIs.frozen h 60
    have e2 : dropErr s = 0 := by simp [dropErr, htu]
    by_cases hst : p < n ∧ t p = s
    · rw [show decide (p < n ∧ t p = s) = true by simp [hst]] at HSt
      have e1 : dropOk t n s p = true := by simp [dropOk, htu, hst]
      rw [dropT, dropN, e1, e2]
      have hpn := hst.1
      have hwn : IntKind.i64.wrap ((n : Int) - 1) = (n : Int) - 1 := by rw [IntKind.wrap_i64]; omega
      clear h e1 e2 hp hst
      go_enter Try.func44, Try.ntmps44
      go_wp2_with (first
        | (go_at_call 59; refine HT.mono ?_; rintro e w' ⟨rfl, hw'⟩; obtain rfl : w = w' := hw'.symm)
        | (go_at_call 61; refine HP.mono ?_; rintro e w' ⟨rfl, hw'⟩; obtain rfl : w = w' := hw'.symm)
        | (go_at_call 62; refine HSt.mono ?_; rintro e w' ⟨rfl, hw'⟩; obtain rfl : w = w' := hw'.symm))
      go_loopw [7] (fun v wr => ∃ i : Nat, p ≤ i ∧ i ≤ n - 1 ∧ v = .int .i64 (i : Int) ∧ wr.rowIs bx 79 81 (closev t n cx p i) ∧ Touch (fun k => k = bx) w wr) (fun v _ => n - (intOf v).toNat)
      case atStart => exact ⟨p, Nat.le_refl _, by omega, rfl, (HF.out.set 60 (.int .i64 ((n : Int) - 1))).congr (fun j hj => by
          unfold closev
          by_cases a : j < 60
          · have b1 : ¬ (p ≤ j ∧ j < p) := by omega
            have b2 : ¬ j = 60 := by omega
            simp only [a, b1, b2, bookv, if_true, if_false]
          · by_cases b : j = 60
            · simp only [a, b, if_true, if_false]; simp
            · simp only [a, b, if_false]), (Touch.refl _ _).set _ _ (.inl rfl)⟩
      case round =>
        obtain ⟨i, h1, h2, rfl, hr, ht⟩ := hrel
        have c60 : wr.cell? ⟨bx, 60, none⟩ = some (.int .i64 ((n : Int) - 1)) := by
          rw [hr.cell (i := 60) (by omega)]; simp [closev]
        have hfz := hr.frozen
        by_cases hpi : i < n - 1
        · have hgt : (i : Int) < (n : Int) - 1 := by omega
          have c3 : wr.cell? ⟨bx, i + 1, none⟩ = some (.string (t (i + 1))) := by
            rw [hr.cell (i := i + 1) (by omega), closev, if_pos (by omega), if_neg (by omega), if_pos (by omega)]
          have c4 : ∃ x, wr.cell? ⟨bx, i, none⟩ = some (.string x) := by
            rw [hr.cell (i := i) (by omega), closev, if_pos (by omega)]
            exact ⟨_, rfl⟩
          obtain ⟨x, c4⟩ := c4
          have hf := hfz i
          have HR : Hid (wr.rowIs bx 79 81 (closev t n cx p i)) := hr
          have HTT : Hid (Touch (fun k => k = bx) w wr) := ht
          have hwk : IntKind.i64.wrap ((i : Int) + 1) = (i : Int) + 1 := by rw [IntKind.wrap_i64]; omega
          clear hr ht hfz HF c1 HP HSt HT
          go_wp2_with fail
          go_region
          go_wp2_with fail
          go_roundw
          case rel =>
            refine ⟨i + 1, by omega, by omega, by go_num, ?_, ?_⟩
            · refine (HR.out.set i (.string (t (i + 1)))).congr (fun j hj => ?_)
              unfold closev
              by_cases a : j < 60
              · rw [if_pos a, if_pos a]
                by_cases e : j = i
                · subst e; rw [if_pos rfl, if_pos (by omega)]
                · rw [if_neg e]
                  by_cases b : p ≤ j ∧ j < i
                  · have b' : p ≤ j ∧ j < i + 1 := by omega
                    simp only [b, b', and_self, if_true]
                  · have b' : ¬ (p ≤ j ∧ j < i + 1) := by omega
                    simp only [b, b', if_false]
              · rw [if_neg a, if_neg a, if_neg (by omega)]
            · have := HTT.out.set ⟨bx, i, none⟩ (.string (t (i + 1))) (.inl rfl)
              exact ⟨this.os, this.tape, this.output, this.size, this.block⟩
          case measure => simp [intOf]; omega
        · have e : i = n - 1 := by omega
          have hgt : ¬ (i : Int) < (n : Int) - 1 := by omega
          have e0 : (n : Int) - 1 = ((n - 1 : Nat) : Int) := by omega
          have c4 : ∃ x, wr.cell? ⟨bx, n - 1, none⟩ = some (.string x) := by
            rw [hr.cell (i := n - 1) (by omega), closev, if_pos (by omega)]
            exact ⟨_, rfl⟩
          obtain ⟨x, c4⟩ := c4
          have hf := hfz (n - 1)
          rw [e0] at c60 hgt
          have HR : Hid (wr.rowIs bx 79 81 (closev t n cx p i)) := hr
          have HTT : Hid (Touch (fun k => k = bx) w wr) := ht
          clear hr ht hfz HF c1 HP HSt HT
          obtain ⟨m, HM⟩ : ∃ m, Hid (m = n - 1) := ⟨n - 1, by unfold Hid; rfl⟩
          rw [← HM.out] at c4 hf c60 hgt
          have HE : Hid (i = m) := by unfold Hid; rw [HM.out]; exact e
          have hm60 : (m : Int) < 60 := by have := HM.out; omega
          clear e e0 h2 hpi hwn
          go_wp2_with fail
          go_region
          go_wp2_with fail
          go_ret2
          have hE := HE.out
          have hM := HM.out
          subst hE
          refine ⟨rfl, ?_, ?_⟩
          · refine (HR.out.set i (.string ByteArray.empty)).congr (fun j hj => ?_)
            unfold closev bookv del
            by_cases a : j < 60
            · rw [if_pos a, if_pos a]
              by_cases e : j = i
              · rw [if_pos e, if_neg (by omega)]
              · rw [if_neg e]
                by_cases b : p ≤ j ∧ j < i
                · have b1 : j < n - 1 := by omega
                  have b2 : ¬ j < p := by omega
                  simp only [b, b1, b2, and_self, if_true, if_false]
                · by_cases c : j < n
                  · have b1 : j < n - 1 := by omega
                    have b2 : j < p := by omega
                    simp only [b, b1, b2, c, if_true, if_false]
                  · have b1 : ¬ j < n - 1 := by omega
                    simp only [b, b1, c, if_false]
            · by_cases e : j = 60
              · have e2 : ¬ (60 : Nat) = i := by omega
                have e3 : ((n - 1 : Nat) : Int) = (n : Int) - 1 := by omega
                simp only [e, e2, e3, if_true, if_false]
                simp
              · have e2 : ¬ j = i := by omega
                simp only [a, e, e2, if_false]
          · have := HTT.out.set ⟨bx, i, none⟩ (.string ByteArray.empty) (.inl rfl)
            exact ⟨this.os, this.tape, this.output, this.size, this.block⟩
    · rw [show decide (p < n ∧ t p = s) = false by simp [hst]] at HSt
      have e1 : dropOk t n s p = false := by simp [dropOk, hst]
      rw [dropT, dropN, e1, e2]
      clear h e1 e2 hp hst
      go_enter Try.func44, Try.ntmps44
      go_wp2_with (first
        | (go_at_call 59; refine HT.mono ?_; rintro e w' ⟨rfl, hw'⟩; obtain rfl : w = w' := hw'.symm)
        | (go_at_call 61; refine HP.mono ?_; rintro e w' ⟨rfl, hw'⟩; obtain rfl : w = w' := hw'.symm)
        | (go_at_call 62; refine HSt.mono ?_; rintro e w' ⟨rfl, hw'⟩; obtain rfl : w = w' := hw'.symm))
      go_ret2
      exact ⟨rfl, HF.out, Touch.refl _ _⟩

set_option maxRecDepth 20000 in
set_option maxHeartbeats 2000000 in
theorem bhas_ok (w : World) (bx n : Nat) (t : Nat → ByteArray) (cx : Nat → Value) (s : ByteArray) (p : Nat) (h : BxAt w bx t n cx) (hn : n ≤ 60) (hs : s.size ≤ maxLen) (hp : IsPl t n s p) :
    Calls Try.prog 51 #[.pointer (some ⟨bx, 0, none⟩), .string s] w fun e w' => e = .returned (.tuple #[.bool (dropOk t n s p), .int .i64 (dropErr s)]) ∧ w' = w := by
  have HT := isTune_ok s w hs
  cases htu : tuneB s with
  | false =>
    rw [show (decide (s.size ≤ 12) && textTo s s.size) = false from htu] at HT
    have e1 : dropOk t n s p = false := by simp [dropOk, htu]
    have e2 : dropErr s = 7 := by simp [dropErr, htu]
    rw [e1, e2]
    clear h e1 e2
    go_enter Try.func51, Try.ntmps51
    go_wp2_with (go_at_call 59; refine HT.mono ?_; rintro e w' ⟨rfl, hw'⟩; obtain rfl : w = w' := hw'.symm)
    go_ret2
    exact ⟨rfl, rfl⟩
  | true =>
    rw [show (decide (s.size ≤ 12) && textTo s s.size) = true from htu] at HT
    have HP := place_ok w bx n t cx s p h hn hp
    have HSt := standsAt_ok w bx n t cx s p h hn
    have e2 : dropErr s = 0 := by simp [dropErr, htu]
    have e1 : dropOk t n s p = decide (p < n ∧ t p = s) := by simp only [dropOk, htu, Bool.true_and]
    rw [e1, e2]
    generalize decide (p < n ∧ t p = s) = bb at *
    clear h e1 e2 hp
    go_enter Try.func51, Try.ntmps51
    go_wp2_with (first
      | (go_at_call 59; refine HT.mono ?_; rintro e w' ⟨rfl, hw'⟩; obtain rfl : w = w' := hw'.symm)
      | (go_at_call 61; refine HP.mono ?_; rintro e w' ⟨rfl, hw'⟩; obtain rfl : w = w' := hw'.symm)
      | (go_at_call 62; refine HSt.mono ?_; rintro e w' ⟨rfl, hw'⟩; obtain rfl : w = w' := hw'.symm))
    go_ret2
    exact ⟨rfl, rfl⟩
set_option maxRecDepth 20000 in
theorem bcount_ok (w : World) (bx n : Nat) (t : Nat → ByteArray) (cx : Nat → Value) (h : BxAt w bx t n cx) :
    Calls Try.prog 46 #[.pointer (some ⟨bx, 0, none⟩)] w fun e w' => e = .returned (.int .i64 (n : Int)) ∧ w' = w := by
  have c1 := h.cnt
  clear h
  go_enter Try.func46, Try.ntmps46
  go_wp2_with fail
  go_ret
  exact ⟨rfl, rfl⟩
end Go.Proofs.Ytpngikmcjkjdaab
