import Derived.Test.YtpngikmcjkjdaabTabs
namespace Go.Proofs.Ytpngikmcjkjdaab
open Go.RowKit
set_option linter.unusedVariables false

/-- The numbers of a text's notes. -/
def notesOf (s : ByteArray) : List Nat := s.data.toList.map fun c => c.toNat - 97
/-- Only notes. -/
def IsText (s : ByteArray) : Prop := ∀ c ∈ s.data.toList, 97 ≤ c.toNat ∧ c.toNat ≤ 104
theorem notes_of {s : ByteArray} (h : IsText s) : Notes (notesOf s) := by
  intro c hc
  simp only [notesOf, List.mem_map] at hc
  obtain ⟨b, hb, rfl⟩ := hc
  have := h b hb
  omega
theorem notesOf_length (s : ByteArray) : (notesOf s).length = s.size := by simp [notesOf]
theorem isText_at {s : ByteArray} (h : IsText s) (k : Nat) (hk : k < s.size) : 97 ≤ (s[k].toNat : Int) ∧ (s[k].toNat : Int) ≤ 104 := by
  have : s[k] ∈ s.data.toList := by
    rw [Array.mem_toList_iff]; exact Array.getElem_mem (xs := s.data) hk
  have := h _ this
  omega
theorem notesOf_take (s : ByteArray) (k : Nat) (h : k < s.size) : (notesOf s).take (k + 1) = (notesOf s).take k ++ [s[k].toNat - 97] := by
  rw [List.take_succ_eq_append_getElem (by rw [notesOf_length]; exact h)]
  congr 2
  simp [notesOf]; rfl

theorem isText_push (s t : ByteArray) (hs : IsText s) (ht : IsText t) : IsText (s ++ t) := by
  intro c hc
  have : (s ++ t).data = s.data ++ t.data := by simp [ByteArray.data_append]
  rw [this, Array.toList_append, List.mem_append] at hc
  rcases hc with h | h
  · exact hs c h
  · exact ht c h

def noteB (pv : Nat) : UInt8 := UInt8.ofNat (97 + pv)
theorem toNat_note (pv : Nat) (h : pv < 8) : (noteB pv).toNat = 97 + pv := by
  unfold noteB; rw [UInt8.toNat_ofNat']; omega
theorem isText_note (pv : Nat) (h : pv < 8) : IsText ⟨#[noteB pv]⟩ := by
  intro c hc
  simp at hc
  subst hc
  have := toNat_note pv h
  omega

theorem notes_take {x : List Nat} (h : Notes x) (k : Nat) : Notes (x.take k) := fun c hc => h c (List.mem_of_mem_take hc)

set_option maxRecDepth 20000 in
set_option maxHeartbeats 1000000 in
theorem trun_ok (V : Lay) (M : Tab) (s : ByteArray) (w : World) (hM : M.Ok) (h : TabAt w V M) (hs : IsText s) (hl : s.size ≤ 1000) :
    Calls Try.prog 41 #[.agg #[.slice (some ⟨V.ba, V.oa, none⟩) M.n V.ca, .slice (some ⟨V.bn, V.on, none⟩) M.n V.cn], .string s] w
      fun e w' => e = .returned (.tuple #[.bool (M.accepts (notesOf s)), .int .i64 0]) ∧ Below w.heap.size w w' := by
  have hlo := hM.lo
  have hhi := hM.hi
  have B1 : Below w.heap.size w (w.alloc (.cells #[.slice (some ⟨V.ba, V.oa, none⟩) M.n V.ca, .slice (some ⟨V.bn, V.on, none⟩) M.n V.cn] 30)) := (Below.refl _ _).alloc (Nat.le_refl _) _
  have h1 := h.below B1
  go_enter Try.func41, Try.ntmps41
  go_wp2_with fail
  refine (valid_ok V M _ hM h1).mono ?_
  rintro e w1 ⟨rfl, hb1⟩
  have hc0 := (bcell hb1).1 w.heap.size 0 (by simp)
  have hc1 := (bcell hb1).1 w.heap.size 1 (by simp)
  have h2 := h1.below hb1
  have B2 : Below w.heap.size w w1 := B1.trans (hb1.mono (by simp))
  simp at hc0 hc1
  clear h h1 hb1
  go_wp2_with fail
  go_loop [6, 7, 8, 9] (fun st i _ _ => ∃ k : Nat, k ≤ s.size ∧ i = .int .i64 k ∧ st = .int .i64 (M.read 0 ((notesOf s).take k))) (fun _ i _ _ => s.size - (intOf i).toNat)
  case atStart => exact ⟨0, Nat.zero_le _, rfl, rfl⟩
  case round =>
    obtain ⟨k, hk, rfl, rfl⟩ := hrel
    have hst := Tab.read_lt hM 0 (by omega) _ (notes_take (notes_of hs) k)
    by_cases hlt : k < s.size
    · have hch := isText_at hs k hlt
      have HT := notesOf_take s k hlt
      have hc8 : (s[k].toNat - 97 : Nat) < 8 := by omega
      have HS : Hid (((M.read 0 ((notesOf s).take (k + 1)) : Nat) : Int) = (M.nxt (M.read 0 ((notesOf s).take k)) (s[k].toNat - 97) : Nat)) := by
        unfold Hid; rw [HT, Tab.read_snoc]
      generalize M.read 0 ((notesOf s).take k) = q at *
      have hr := h2.row q hst
      have hcl := h2.cel q _ hst hc8
      have e1 : ((s[k].toNat : Int) - 97).toNat = s[k].toNat - 97 := by omega
      clear HT h2
      go_wp2_with (go_at_call 58; refine (number_yes _ _ hch.1 hch.2).mono ?_; rintro e w' ⟨rfl, rfl⟩)
      go_round
      case rel => exact ⟨k + 1, by omega, by go_num, by rw [HS.out]⟩
      case measure => simp [intOf]; omega
    · have e : k = s.size := by omega
      subst e
      rw [List.take_of_length_le (by rw [notesOf_length]; omega)] at hst ⊢
      have HS : Hid (M.accepts (notesOf s) = M.acc (M.read 0 (notesOf s))) := rfl
      generalize M.read 0 (notesOf s) = q at *
      have ha := h2.acc q hst
      go_wp2
      go_ret2
      exact ⟨by rw [HS.out]; rfl, B2⟩

set_option maxRecDepth 20000 in
set_option maxHeartbeats 400000 in
theorem run_ok (V : Lay) (M : Tab) (s : ByteArray) (w : World) (hM : M.Ok) (h : TabAt w V M) (hs : IsText s) (hl : s.size ≤ 1000) :
    Calls Try.prog 20 #[.agg #[.slice (some ⟨V.ba, V.oa, none⟩) M.n V.ca, .slice (some ⟨V.bn, V.on, none⟩) M.n V.cn], .string s] w
      fun e w' => e = .returned (.tuple #[.bool (M.accepts (notesOf s)), .int .i64 0]) ∧ Below w.heap.size w w' := by
  have B1 : Below w.heap.size w (w.alloc (.cells #[.slice (some ⟨V.ba, V.oa, none⟩) M.n V.ca, .slice (some ⟨V.bn, V.on, none⟩) M.n V.cn] 30)) := (Below.refl _ _).alloc (Nat.le_refl _) _
  have h1 := h.below B1
  go_enter Try.func20, Try.ntmps20
  go_wp2_with fail
  refine (trun_ok V M s _ hM h1 hs hl).mono ?_
  rintro e w1 ⟨rfl, hb1⟩
  go_wp2
  go_ret2
  exact ⟨rfl, B1.trans (hb1.mono (by simp))⟩

/-- Only notes, as far as k. -/
def textTo (s : ByteArray) : Nat → Bool
  | 0 => true
  | k + 1 => textTo s k && (decide (97 ≤ (s.data.toList.getD k 0).toNat) && decide ((s.data.toList.getD k 0).toNat ≤ 104))
theorem textTo_iff (s : ByteArray) (k : Nat) : textTo s k = true ↔ ∀ j, j < k → 97 ≤ (s.data.toList.getD j 0).toNat ∧ (s.data.toList.getD j 0).toNat ≤ 104 := by
  induction k with
  | zero => simp [textTo]
  | succ k ih =>
    simp only [textTo, Bool.and_eq_true, ih, decide_eq_true_eq]
    constructor
    · rintro ⟨h, h1⟩ c hc
      by_cases e : c = k
      · subst e; exact h1
      · exact h c (by omega)
    · intro h
      exact ⟨fun c hc => h c (by omega), h k (by omega)⟩
theorem textTo_mono (s : ByteArray) (k m : Nat) (hk : k ≤ m) (h : textTo s k = false) : textTo s m = false := by
  rw [Bool.eq_false_iff] at h ⊢
  intro hm; apply h; rw [textTo_iff] at hm ⊢; exact fun c hc => hm c (by omega)
theorem getD_byte (s : ByteArray) (k : Nat) (hk : k < s.size) : s.data.toList.getD k 0 = s[k] := by
  rw [List.getD_eq_getElem?_getD, List.getElem?_eq_getElem (by rw [Array.length_toList]; exact hk)]
  rfl
theorem textTo_isText (s : ByteArray) : textTo s s.size = true ↔ IsText s := by
  rw [textTo_iff]
  constructor
  · intro h c hc
    obtain ⟨j, hj, rfl⟩ := List.getElem_of_mem hc
    have := h j (by rw [Array.length_toList] at hj; exact hj)
    rw [List.getD_eq_getElem?_getD, List.getElem?_eq_getElem hj] at this
    exact this
  · intro h j hj
    have hj' : j < s.data.toList.length := by rw [Array.length_toList]; exact hj
    rw [List.getD_eq_getElem?_getD, List.getElem?_eq_getElem hj']
    exact h _ (List.getElem_mem hj')
end Go.Proofs.Ytpngikmcjkjdaab
