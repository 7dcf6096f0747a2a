import Derived.BigQuiet
import Derived.Deep.QuietTactic
import Derived.WalkKit
import Derived.WalkLawsBesides
import Derived.WalkSpells
import Derived.Test.YtpngikmcjkjdaabProg
set_option linter.unusedVariables false
set_option linter.unusedSimpArgs false
namespace Go.Proofs.Ytpngikmcjkjdaab
open Go.RowKit
set_option linter.unusedVariables false
theorem ret_bool {a b : Bool} (h : a = b) : Ending.returned (.bool a) = .returned (.bool b) := by rw [h]
theorem ret_int {k : IntKind} {a b : Int} (h : a = b) : Ending.returned (.int k a) = .returned (.int k b) := by rw [h]
theorem bcell {W w1 : World} (hb : Below W.heap.size W w1) : (∀ b o, b < W.heap.size → w1.cell? ⟨b, o, none⟩ = W.cell? ⟨b, o, none⟩) ∧ (∀ b o, b < W.heap.size → w1.frozen? ⟨b, o, none⟩ = W.frozen? ⟨b, o, none⟩) :=
  ⟨fun b o h => hb.cell (p := ⟨b, o, none⟩) h, fun b o h => hb.frozen (p := ⟨b, o, none⟩) h⟩
theorem lt_of_cell {w : World} {b o : Nat} {v : Value} (h : w.cell? ⟨b, o, none⟩ = some v) : b < w.heap.size := by
  rcases Nat.lt_or_ge b w.heap.size with hlt | hge
  · exact hlt
  · exfalso
    have hn : w.heap[b]? = none := by simp; omega
    simp [World.cell?, hn] at h
end Go.Proofs.Ytpngikmcjkjdaab

namespace Go.Proofs.Ytpngikmcjkjdaab
open Go.RowKit
set_option linter.unusedVariables false
set_option maxRecDepth 20000 in
set_option maxHeartbeats 400000 in
theorem isNote_yes (b : Int) (w : World) (h1 : 97 ≤ b) (h2 : b ≤ 104) :
    Calls Try.prog 79 #[.int .u8 b] w fun e w' => e = .returned (.bool true) ∧ w' = w := by
  go_enter Try.func79, Try.ntmps79
  go_wp2
  go_ret
  exact ⟨ret_bool (by simp; omega), rfl⟩
set_option maxRecDepth 20000 in
set_option maxHeartbeats 400000 in
theorem isNote_no (b : Int) (w : World) (h1 : b < 97 ∨ 104 < b) :
    Calls Try.prog 79 #[.int .u8 b] w fun e w' => e = .returned (.bool false) ∧ w' = w := by
  rcases h1 with h | h
  · have h' : ¬ 97 ≤ b := by omega
    go_enter Try.func79, Try.ntmps79
    go_wp2
    go_ret
    exact ⟨ret_bool (by simp), rfl⟩
  · have h' : 97 ≤ b := by omega
    go_enter Try.func79, Try.ntmps79
    go_wp2
    go_ret
    exact ⟨ret_bool (by simp; omega), rfl⟩
set_option maxRecDepth 20000 in
set_option maxHeartbeats 400000 in
theorem number_yes (b : Int) (w : World) (h1 : 97 ≤ b) (h2 : b ≤ 104) :
    Calls Try.prog 58 #[.int .u8 b] w fun e w' => e = .returned (.tuple #[.int .i64 (b - 97), .bool true]) ∧ w' = w := by
  go_enter Try.func58, Try.ntmps58
  go_wp2_with fail
  refine (isNote_yes b w h1 h2).mono ?_
  rintro e w' ⟨rfl, rfl⟩
  go_wp2
  go_ret2
  exact ⟨rfl, rfl⟩
set_option maxRecDepth 20000 in
set_option maxHeartbeats 400000 in
theorem number_no (b : Int) (w : World) (h1 : b < 97 ∨ 104 < b) :
    Calls Try.prog 58 #[.int .u8 b] w fun e w' => e = .returned (.tuple #[.int .i64 0, .bool false]) ∧ w' = w := by
  go_enter Try.func58, Try.ntmps58
  go_wp2_with fail
  refine (isNote_no b w h1).mono ?_
  rintro e w' ⟨rfl, rfl⟩
  go_wp2
  go_ret2
  exact ⟨rfl, rfl⟩
def rowOk (f : Nat → Int) (n : Int) : Nat → Bool
  | 0 => true
  | k + 1 => rowOk f n k && (decide (0 ≤ f k) && decide (f k < n))
theorem rowOk_iff (f : Nat → Int) (n : Int) (k : Nat) : rowOk f n k = true ↔ ∀ c, c < k → 0 ≤ f c ∧ f c < n := by
  induction k with
  | zero => simp [rowOk]
  | succ k ih =>
    simp only [rowOk, Bool.and_eq_true, ih, decide_eq_true_eq]
    constructor
    · rintro ⟨h, h1, h2⟩ c hc
      by_cases e : c = k
      · subst e; exact ⟨h1, h2⟩
      · exact h c (by omega)
    · intro h
      exact ⟨fun c hc => h c (by omega), h k (by omega)⟩
theorem rowOk_mono (f : Nat → Int) (n : Int) (k m : Nat) (hk : k ≤ m) (h : rowOk f n k = false) : rowOk f n m = false := by
  rw [Bool.eq_false_iff] at h ⊢
  intro hm; apply h; rw [rowOk_iff] at hm ⊢; exact fun c hc => hm c (by omega)
set_option maxRecDepth 20000 in
set_option maxHeartbeats 800000 in
theorem validRow_8 (b o c : Nat) (f : Nat → Int) (n : Int) (w : World) (hc : ∀ k, k < 8 → w.cell? ⟨b, o + k, none⟩ = some (.int .i64 (f k))) :
    Calls Try.prog 76 #[.slice (some ⟨b, o, none⟩) 8 c, .int .i64 n] w fun e w' => e = .returned (.bool (rowOk f n 8)) ∧ w' = w := by
  go_enter Try.func76, Try.ntmps76
  go_wp2
  go_loop [6, 12] (fun _ i => ∃ k : Nat, k ≤ 8 ∧ i = .int .i64 k ∧ rowOk f n k = true) (fun _ i => 8 - (intOf i).toNat)
  case atStart => exact ⟨0, by omega, rfl, rfl⟩
  case round =>
    obtain ⟨k, hk, rfl, hr⟩ := hrel
    by_cases hlt : k < 8
    · have hck := hc k hlt
      by_cases h0 : f k < 0
      · have HF : Hid (rowOk f n 8 = false) := by
          apply rowOk_mono f n (k+1) 8 (by omega)
          simp only [rowOk, hr, Bool.true_and, Bool.and_eq_false_iff, decide_eq_false_iff_not]; left; omega
        clear hr hc
        go_wp2
        go_ret
        exact ⟨ret_bool HF.out.symm, rfl⟩
      · by_cases h1 : f k < n
        · have HR : Hid (rowOk f n (k+1) = true) := by
            simp only [Hid, rowOk, hr, Bool.true_and, Bool.and_eq_true, decide_eq_true_eq]; omega
          clear hr hc
          go_wp2
          go_round
          case rel => exact ⟨k + 1, by omega, by go_num, HR.out⟩
          case measure => simp [intOf]; omega
        · have HF : Hid (rowOk f n 8 = false) := by
            apply rowOk_mono f n (k+1) 8 (by omega)
            simp only [rowOk, hr, Bool.true_and, Bool.and_eq_false_iff, decide_eq_false_iff_not]; right; omega
          clear hr hc
          go_wp2
          go_ret
          exact ⟨ret_bool HF.out.symm, rfl⟩
    · have e : k = 8 := by omega
      subst e
      have HR : Hid (rowOk f n 8 = true) := hr
      clear hr hc
      go_wp2
      go_ret
      exact ⟨ret_bool HR.out.symm, rfl⟩
end Go.Proofs.Ytpngikmcjkjdaab

namespace Go.Proofs.Ytpngikmcjkjdaab
open Go.RowKit
set_option linter.unusedVariables false
structure Tab where
  n : Nat
  acc : Nat → Bool
  nxt : Nat → Nat → Nat
structure Tab.Ok (M : Tab) : Prop where
  lo : 1 ≤ M.n
  hi : M.n ≤ 40
  nx : ∀ i c, i < M.n → c < 8 → M.nxt i c < M.n
def Tab.read (M : Tab) (s : Nat) (x : List Nat) : Nat := x.foldl M.nxt s
def Tab.accepts (M : Tab) (x : List Nat) : Bool := M.acc (M.read 0 x)
def Notes (x : List Nat) : Prop := ∀ c ∈ x, c < 8
theorem Tab.read_lt {M : Tab} (h : M.Ok) (s : Nat) (hs : s < M.n) (x : List Nat) (hx : Notes x) : M.read s x < M.n := by
  induction x generalizing s with
  | nil => exact hs
  | cons c x ih =>
    simp only [Tab.read, List.foldl_cons]
    exact ih (M.nxt s c) (h.nx s c hs (hx c (by simp))) (fun d hd => hx d (by simp [hd]))
theorem Tab.read_append (M : Tab) (s : Nat) (x y : List Nat) : M.read s (x ++ y) = M.read (M.read s x) y := by simp [Tab.read]
theorem Tab.read_snoc (M : Tab) (s : Nat) (x : List Nat) (c : Nat) : M.read s (x ++ [c]) = M.nxt (M.read s x) c := by simp [Tab.read]
structure Lay where
  (ba oa ca bn on cn : Nat)
  (rb ro rc : Nat → Nat)
structure TabAt (w : World) (V : Lay) (M : Tab) : Prop where
  acc : ∀ i, i < M.n → w.cell? ⟨V.ba, V.oa + i, none⟩ = some (.bool (M.acc i))
  row : ∀ i, i < M.n → w.cell? ⟨V.bn, V.on + i, none⟩ = some (.slice (some ⟨V.rb i, V.ro i, none⟩) 8 (V.rc i))
  cel : ∀ i c, i < M.n → c < 8 → w.cell? ⟨V.rb i, V.ro i + c, none⟩ = some (.int .i64 (M.nxt i c))
theorem TabAt.below {w w' : World} {V : Lay} {M : Tab} (h : TabAt w V M) (hb : Below w.heap.size w w') : TabAt w' V M where
  acc i hi := by rw [(bcell hb).1 _ _ (lt_of_cell (h.acc i hi))]; exact h.acc i hi
  row i hi := by rw [(bcell hb).1 _ _ (lt_of_cell (h.row i hi))]; exact h.row i hi
  cel i c hi hc := by rw [(bcell hb).1 _ _ (lt_of_cell (h.cel i c hi hc))]; exact h.cel i c hi hc
structure Lay.From (V : Lay) (N n : Nat) : Prop where
  a : N ≤ V.ba
  b : N ≤ V.bn
  r : ∀ i, i < n → N ≤ V.rb i
theorem cell_set_other {w : World} {p q : Addr} {u : Value} (h : q.block ≠ p.block) : (w.setCell p u).cell? q = w.cell? q := World.cell?_of_block (Below.heap_setCell w p u q.block h)
theorem TabAt.set {w : World} {V : Lay} {M : Tab} (h : TabAt w V M) {N : Nat} (hV : V.From N M.n) {p : Addr} (hp : p.block < N) (u : Value) : TabAt (w.setCell p u) V M where
  acc i hi := by rw [cell_set_other (by have := hV.a; simp; omega)]; exact h.acc i hi
  row i hi := by rw [cell_set_other (by have := hV.b; simp; omega)]; exact h.row i hi
  cel i c hi hc := by rw [cell_set_other (by have := hV.r i hi; simp; omega)]; exact h.cel i c hi hc
set_option maxRecDepth 20000 in
set_option maxHeartbeats 800000 in
theorem valid_ok (V : Lay) (M : Tab) (w : World) (hM : M.Ok) (h : TabAt w V M) :
    Calls Try.prog 55 #[.agg #[.slice (some ⟨V.ba, V.oa, none⟩) M.n V.ca, .slice (some ⟨V.bn, V.on, none⟩) M.n V.cn]] w
      fun e w' => e = .returned (.bool true) ∧ Below w.heap.size w w' := by
  obtain ⟨h1, h2, hnx⟩ := hM
  generalize hn : M.n = n at *
  have hs : n ≠ 0 := by omega
  have B1 : Below w.heap.size w (w.alloc (.cells #[.slice (some ⟨V.ba, V.oa, none⟩) n V.ca, .slice (some ⟨V.bn, V.on, none⟩) n V.cn] 30)) := (Below.refl _ _).alloc (Nat.le_refl _) _
  have hrow : ∀ i, i < n → (w.alloc (.cells #[.slice (some ⟨V.ba, V.oa, none⟩) n V.ca, .slice (some ⟨V.bn, V.on, none⟩) n V.cn] 30)).cell? ⟨V.bn, V.on + i, none⟩ = some (.slice (some ⟨V.rb i, V.ro i, none⟩) 8 (V.rc i)) :=
    fun i hi => (h.below B1).row i (by omega)
  have hcel : ∀ i, i < n → ∀ c, c < 8 → (w.alloc (.cells #[.slice (some ⟨V.ba, V.oa, none⟩) n V.ca, .slice (some ⟨V.bn, V.on, none⟩) n V.cn] 30)).cell? ⟨V.rb i, V.ro i + c, none⟩ = some (.int .i64 (M.nxt i c)) :=
    fun i hi c hc => (h.below B1).cel i c (by omega) hc
  have hok : ∀ i, i < n → rowOk (fun c => (M.nxt i c : Int)) n 8 = true := by
    intro i hi; rw [rowOk_iff]; intro c hc; have := hnx i c hi hc; omega
  clear h hnx
  go_enter Try.func55, Try.ntmps55
  go_wp2
  go_loop [5, 25] (fun _ i => ∃ k : Nat, k ≤ n ∧ i = .int .i64 k) (fun _ i => n - (intOf i).toNat)
  case atStart => exact ⟨0, by omega, rfl⟩
  case round =>
    obtain ⟨k, hk, rfl⟩ := hrel
    by_cases hlt : k < n
    · have hr := hrow k hlt
      have hcl := hcel k hlt
      have hk8 := hok k hlt
      clear hrow hcel hok
      go_wp2_with (go_at_call 76; refine (validRow_8 _ _ _ (fun c => (M.nxt k c : Int)) _ _ hcl).mono ?_; rw [hk8]; rintro e w' ⟨rfl, rfl⟩)
      go_round
      case rel => exact ⟨k + 1, by omega, by go_num⟩
      case measure => simp [intOf]; omega
    · clear hrow hcel hok
      go_wp2
      go_ret
      exact ⟨rfl, B1⟩
end Go.Proofs.Ytpngikmcjkjdaab

namespace Go.Proofs.Ytpngikmcjkjdaab
open Go.RowKit
set_option linter.unusedVariables false
def notesOf (s : ByteArray) : List Nat := s.data.toList.map fun c => c.toNat - 97
def IsText (s : ByteArray) : Prop := ∀ c ∈ s.data.toList, 97 ≤ c.toNat ∧ c.toNat ≤ 104
theorem notes_of {s : ByteArray} (h : IsText s) : Notes (notesOf s) := by
  intro c hc
  simp only [notesOf, List.mem_map] at hc
  obtain ⟨b, hb, rfl⟩ := hc
  have := h b hb
  omega
theorem notesOf_length (s : ByteArray) : (notesOf s).length = s.size := by simp [notesOf]
theorem isText_at {s : ByteArray} (h : IsText s) (k : Nat) (hk : k < s.size) : 97 ≤ (s[k].toNat : Int) ∧ (s[k].toNat : Int) ≤ 104 := by
  have : s[k] ∈ s.data.toList := by
    rw [Array.mem_toList_iff]; exact Array.getElem_mem (xs := s.data) hk
  have := h _ this
  omega
theorem notesOf_take (s : ByteArray) (k : Nat) (h : k < s.size) : (notesOf s).take (k + 1) = (notesOf s).take k ++ [s[k].toNat - 97] := by
  rw [List.take_succ_eq_append_getElem (by rw [notesOf_length]; exact h)]
  congr 2
  simp [notesOf]; rfl
theorem isText_push (s t : ByteArray) (hs : IsText s) (ht : IsText t) : IsText (s ++ t) := by
  intro c hc
  have : (s ++ t).data = s.data ++ t.data := by simp [ByteArray.data_append]
  rw [this, Array.toList_append, List.mem_append] at hc
  rcases hc with h | h
  · exact hs c h
  · exact ht c h
def noteB (pv : Nat) : UInt8 := UInt8.ofNat (97 + pv)
theorem toNat_note (pv : Nat) (h : pv < 8) : (noteB pv).toNat = 97 + pv := by
  unfold noteB; rw [UInt8.toNat_ofNat']; omega
theorem isText_note (pv : Nat) (h : pv < 8) : IsText ⟨#[noteB pv]⟩ := by
  intro c hc
  simp at hc
  subst hc
  have := toNat_note pv h
  omega
theorem notes_take {x : List Nat} (h : Notes x) (k : Nat) : Notes (x.take k) := fun c hc => h c (List.mem_of_mem_take hc)
set_option maxRecDepth 20000 in
set_option maxHeartbeats 1000000 in
theorem trun_ok (V : Lay) (M : Tab) (s : ByteArray) (w : World) (hM : M.Ok) (h : TabAt w V M) (hs : IsText s) (hl : s.size ≤ 1000) :
    Calls Try.prog 41 #[.agg #[.slice (some ⟨V.ba, V.oa, none⟩) M.n V.ca, .slice (some ⟨V.bn, V.on, none⟩) M.n V.cn], .string s] w
      fun e w' => e = .returned (.tuple #[.bool (M.accepts (notesOf s)), .int .i64 0]) ∧ Below w.heap.size w w' := by
  have hlo := hM.lo
  have hhi := hM.hi
  have B1 : Below w.heap.size w (w.alloc (.cells #[.slice (some ⟨V.ba, V.oa, none⟩) M.n V.ca, .slice (some ⟨V.bn, V.on, none⟩) M.n V.cn] 30)) := (Below.refl _ _).alloc (Nat.le_refl _) _
  have h1 := h.below B1
  go_enter Try.func41, Try.ntmps41
  go_wp2_with fail
  refine (valid_ok V M _ hM h1).mono ?_
  rintro e w1 ⟨rfl, hb1⟩
  have hc0 := (bcell hb1).1 w.heap.size 0 (by simp)
  have hc1 := (bcell hb1).1 w.heap.size 1 (by simp)
  have h2 := h1.below hb1
  have B2 : Below w.heap.size w w1 := B1.trans (hb1.mono (by simp))
  simp at hc0 hc1
  clear h h1 hb1
  go_wp2_with fail
  go_loop [6, 7, 8, 9] (fun st i _ _ => ∃ k : Nat, k ≤ s.size ∧ i = .int .i64 k ∧ st = .int .i64 (M.read 0 ((notesOf s).take k))) (fun _ i _ _ => s.size - (intOf i).toNat)
  case atStart => exact ⟨0, Nat.zero_le _, rfl, rfl⟩
  case round =>
    obtain ⟨k, hk, rfl, rfl⟩ := hrel
    have hst := Tab.read_lt hM 0 (by omega) _ (notes_take (notes_of hs) k)
    by_cases hlt : k < s.size
    · have hch := isText_at hs k hlt
      have HT := notesOf_take s k hlt
      have hc8 : (s[k].toNat - 97 : Nat) < 8 := by omega
      have HS : Hid (((M.read 0 ((notesOf s).take (k + 1)) : Nat) : Int) = (M.nxt (M.read 0 ((notesOf s).take k)) (s[k].toNat - 97) : Nat)) := by
        unfold Hid; rw [HT, Tab.read_snoc]
      generalize M.read 0 ((notesOf s).take k) = q at *
      have hr := h2.row q hst
      have hcl := h2.cel q _ hst hc8
      have e1 : ((s[k].toNat : Int) - 97).toNat = s[k].toNat - 97 := by omega
      clear HT h2
      go_wp2_with (go_at_call 58; refine (number_yes _ _ hch.1 hch.2).mono ?_; rintro e w' ⟨rfl, rfl⟩)
      go_round
      case rel => exact ⟨k + 1, by omega, by go_num, by rw [HS.out]⟩
      case measure => simp [intOf]; omega
    · have e : k = s.size := by omega
      subst e
      rw [List.take_of_length_le (by rw [notesOf_length]; omega)] at hst ⊢
      have HS : Hid (M.accepts (notesOf s) = M.acc (M.read 0 (notesOf s))) := rfl
      generalize M.read 0 (notesOf s) = q at *
      have ha := h2.acc q hst
      go_wp2
      go_ret2
      exact ⟨by rw [HS.out]; rfl, B2⟩
set_option maxRecDepth 20000 in
set_option maxHeartbeats 400000 in
theorem run_ok (V : Lay) (M : Tab) (s : ByteArray) (w : World) (hM : M.Ok) (h : TabAt w V M) (hs : IsText s) (hl : s.size ≤ 1000) :
    Calls Try.prog 20 #[.agg #[.slice (some ⟨V.ba, V.oa, none⟩) M.n V.ca, .slice (some ⟨V.bn, V.on, none⟩) M.n V.cn], .string s] w
      fun e w' => e = .returned (.tuple #[.bool (M.accepts (notesOf s)), .int .i64 0]) ∧ Below w.heap.size w w' := by
  have B1 : Below w.heap.size w (w.alloc (.cells #[.slice (some ⟨V.ba, V.oa, none⟩) M.n V.ca, .slice (some ⟨V.bn, V.on, none⟩) M.n V.cn] 30)) := (Below.refl _ _).alloc (Nat.le_refl _) _
  have h1 := h.below B1
  go_enter Try.func20, Try.ntmps20
  go_wp2_with fail
  refine (trun_ok V M s _ hM h1 hs hl).mono ?_
  rintro e w1 ⟨rfl, hb1⟩
  go_wp2
  go_ret2
  exact ⟨rfl, B1.trans (hb1.mono (by simp))⟩
def textTo (s : ByteArray) : Nat → Bool
  | 0 => true
  | k + 1 => textTo s k && (decide (97 ≤ (s.data.toList.getD k 0).toNat) && decide ((s.data.toList.getD k 0).toNat ≤ 104))
theorem textTo_iff (s : ByteArray) (k : Nat) : textTo s k = true ↔ ∀ j, j < k → 97 ≤ (s.data.toList.getD j 0).toNat ∧ (s.data.toList.getD j 0).toNat ≤ 104 := by
  induction k with
  | zero => simp [textTo]
  | succ k ih =>
    simp only [textTo, Bool.and_eq_true, ih, decide_eq_true_eq]
    constructor
    · rintro ⟨h, h1⟩ c hc
      by_cases e : c = k
      · subst e; exact h1
      · exact h c (by omega)
    · intro h
      exact ⟨fun c hc => h c (by omega), h k (by omega)⟩
theorem textTo_mono (s : ByteArray) (k m : Nat) (hk : k ≤ m) (h : textTo s k = false) : textTo s m = false := by
  rw [Bool.eq_false_iff] at h ⊢
  intro hm; apply h; rw [textTo_iff] at hm ⊢; exact fun c hc => hm c (by omega)
theorem getD_byte (s : ByteArray) (k : Nat) (hk : k < s.size) : s.data.toList.getD k 0 = s[k] := by
  rw [List.getD_eq_getElem?_getD, List.getElem?_eq_getElem (by rw [Array.length_toList]; exact hk)]
  rfl
theorem textTo_isText (s : ByteArray) : textTo s s.size = true ↔ IsText s := by
  rw [textTo_iff]
  constructor
  · intro h c hc
    obtain ⟨j, hj, rfl⟩ := List.getElem_of_mem hc
    have := h j (by rw [Array.length_toList] at hj; exact hj)
    rw [List.getD_eq_getElem?_getD, List.getElem?_eq_getElem hj] at this
    exact this
  · intro h j hj
    have hj' : j < s.data.toList.length := by rw [Array.length_toList]; exact hj
    rw [List.getD_eq_getElem?_getD, List.getElem?_eq_getElem hj']
    exact h _ (List.getElem_mem hj')
end Go.Proofs.Ytpngikmcjkjdaab

namespace Go.Proofs.Ytpngikmcjkjdaab
open Go.RowKit
set_option linter.unusedVariables false
structure WideAt (w : World) (gw ga ca gn cn : Nat) (M : Tab) : Prop where
  p0 : w.cell? ⟨gw, 0, none⟩ = some (.slice (some ⟨ga, 0, none⟩) M.n ca)
  p1 : w.cell? ⟨gw, 1, none⟩ = some (.slice (some ⟨gn, 0, none⟩) M.n cn)
  acc : ∀ i, i < M.n → w.cell? ⟨ga, i, none⟩ = some (.bool (M.acc i))
  cel : ∀ i c, i < M.n → c < 8 → w.cell? ⟨gn, i * 8 + c, none⟩ = some (.int .i64 (M.nxt i c))
def NatsAt (w : World) (g n : Nat) (f : Nat → Nat) : Prop := ∀ i, i < n → w.cell? ⟨g, i, none⟩ = some (.int .i64 (f i))
theorem WideAt.below {w w' : World} {gw ga ca gn cn : Nat} {M : Tab} (h : WideAt w gw ga ca gn cn M) (hb : Below w.heap.size w w') : WideAt w' gw ga ca gn cn M where
  p0 := by rw [(bcell hb).1 _ _ (lt_of_cell h.p0)]; exact h.p0
  p1 := by rw [(bcell hb).1 _ _ (lt_of_cell h.p1)]; exact h.p1
  acc i hi := by rw [(bcell hb).1 _ _ (lt_of_cell (h.acc i hi))]; exact h.acc i hi
  cel i c hi hc := by rw [(bcell hb).1 _ _ (lt_of_cell (h.cel i c hi hc))]; exact h.cel i c hi hc
theorem NatsAt.below {w w' : World} {g n : Nat} {f : Nat → Nat} (h : NatsAt w g n f) (hb : Below w.heap.size w w') : NatsAt w' g n f :=
  fun i hi => by rw [(bcell hb).1 _ _ (lt_of_cell (h i hi))]; exact h i hi
theorem NatsAt.set {w : World} {g n : Nat} {f : Nat → Nat} (h : NatsAt w g n f) {p : Addr} (hp : g ≠ p.block) (u : Value) : NatsAt (w.setCell p u) g n f :=
  fun i hi => by rw [cell_set_other hp]; exact h i hi
def alikeTo (M : Tab) (f : Nat → Nat) (i j : Nat) : Nat → Bool
  | 0 => true
  | k + 1 => alikeTo M f i j k && (f (M.nxt i k) == f (M.nxt j k))
def alikeB (M : Tab) (f : Nat → Nat) (i j : Nat) : Bool := (M.acc i == M.acc j) && alikeTo M f i j 8
theorem alikeTo_iff (M : Tab) (f : Nat → Nat) (i j k : Nat) : alikeTo M f i j k = true ↔ ∀ c, c < k → f (M.nxt i c) = f (M.nxt j c) := by
  induction k with
  | zero => simp [alikeTo]
  | succ k ih =>
    simp only [alikeTo, Bool.and_eq_true, ih, beq_iff_eq]
    constructor
    · rintro ⟨h, h1⟩ c hc
      by_cases e : c = k
      · subst e; exact h1
      · exact h c (by omega)
    · intro h
      exact ⟨fun c hc => h c (by omega), h k (by omega)⟩
theorem alikeTo_mono (M : Tab) (f : Nat → Nat) (i j k m : Nat) (hk : k ≤ m) (h : alikeTo M f i j k = false) : alikeTo M f i j m = false := by
  rw [Bool.eq_false_iff] at h ⊢
  intro hm; apply h; rw [alikeTo_iff] at hm ⊢; exact fun c hc => hm c (by omega)
theorem alikeB_iff (M : Tab) (f : Nat → Nat) (i j : Nat) : alikeB M f i j = true ↔ M.acc i = M.acc j ∧ ∀ c, c < 8 → f (M.nxt i c) = f (M.nxt j c) := by
  simp [alikeB, alikeTo_iff]
set_option maxRecDepth 20000 in
set_option maxHeartbeats 1000000 in
theorem alike_ok (gw ga ca gn cn go co gh l ch : Nat) (ho : Option Addr) (M : Tab) (f : Nat → Nat) (i j : Nat) (w : World) (hM : WideAt w gw ga ca gn cn M) (hf : NatsAt w go M.n f)
    (hi : i < M.n) (hj : j < M.n) (hn : M.n ≤ 100000000) (hnx : ∀ i c, i < M.n → c < 8 → M.nxt i c < M.n) :
    Calls Try.prog 101 #[.pointer (some ⟨gw, 0, none⟩), .agg #[.slice (some ⟨go, 0, none⟩) M.n co, .slice ho l ch], .int .i64 i, .int .i64 j] w
      fun e w' => e = .returned (.bool (alikeB M f i j)) ∧ Below w.heap.size w w' := by
  have B2 : Below w.heap.size w (w.alloc (.cells #[.slice (some ⟨go, 0, none⟩) M.n co, .slice ho l ch] 149)) :=
    (Below.refl _ _).alloc (Nat.le_refl _) _
  have hM2 := hM.below B2
  have hf2 := hf.below B2
  have p0 := hM2.p0
  have p1 := hM2.p1
  have hai := hM2.acc i hi
  have haj := hM2.acc j hj
  clear hM hf
  by_cases hacc : M.acc i = M.acc j
  · have hb : (M.acc i != M.acc j) = false := by simp [hacc]
    rw [show alikeB M f i j = alikeTo M f i j 8 by simp [alikeB, hacc]]
    rw [hacc] at hai hb
    clear hacc
    go_enter Try.func101, Try.ntmps101
    go_wp2
    go_quiet (fail)
    go_wp2
    go_loopw [9] (fun k' wr => ∃ k : Nat, ∃ q : Nat, k ≤ 8 ∧ k' = .int .i64 k ∧ alikeTo M f i j k = true ∧
        wr = (w.alloc (.cells #[.slice (some ⟨go, 0, none⟩) M.n co, .slice ho l ch] 149)).drewN q)
      (fun k' _ => 8 - (intOf k').toNat)
    case atStart => exact ⟨0, _, by omega, rfl, rfl, rfl⟩
    case round =>
      obtain ⟨k, q, hk, rfl, hal, rfl⟩ := hrel
      clear hai haj hb
      by_cases hlt : k < 8
      · have c1 := hM2.cel i k hi hlt
        have c2 := hM2.cel j k hj hlt
        have n1 := hnx i k hi hlt
        have n2 := hnx j k hj hlt
        have d1 := hf2 _ n1
        have d2 := hf2 _ n2
        by_cases hne : f (M.nxt i k) = f (M.nxt j k)
        · have HA : Hid (alikeTo M f i j (k + 1) = true) := by simp [Hid, alikeTo, hal, hne]
          have hbn : (((f (M.nxt j k) : Nat) : Int) != ((f (M.nxt j k) : Nat) : Int)) = false := by simp
          rw [hne] at d1
          clear hal hM2 hf2 hnx hne
          go_wp2_with fail
          go_quiet (fail)
          go_wp2
          go_roundw
          case rel => exact ⟨k + 1, _, by omega, by go_num, HA.out, rfl⟩
          case measure => simp [intOf]; omega
        · have HA : Hid (alikeTo M f i j 8 = false) := alikeTo_mono M f i j (k + 1) 8 (by omega) (by simp [alikeTo, hne])
          have hbn : (((f (M.nxt i k) : Nat) : Int) == ((f (M.nxt j k) : Nat) : Int)) = false := by simp; omega
          clear hal hM2 hf2 hnx hne
          go_wp2_with fail
          go_quiet (fail)
          go_wp2
          go_ret
          exact ⟨ret_bool HA.out.symm, below_drewN (below_drewN B2 _) _⟩
      · have e : k = 8 := by omega
        subst e
        have HA : Hid (alikeTo M f i j 8 = true) := hal
        clear hal hM2 hf2 hnx
        go_wp2
        go_ret
        exact ⟨ret_bool HA.out.symm, below_drewN B2 _⟩
  · have hb : (M.acc i == M.acc j) = false := by simp [hacc]
    rw [show alikeB M f i j = false by simp [alikeB, hacc]]
    clear hacc
    go_enter Try.func101, Try.ntmps101
    go_wp2
    go_quiet (fail)
    go_wp2
    go_ret
    exact ⟨rfl, below_drewN B2 _⟩
end Go.Proofs.Ytpngikmcjkjdaab

namespace Go.Proofs.Ytpngikmcjkjdaab
open Go.RowKit
set_option linter.unusedVariables false
set_option maxRecDepth 20000 in
set_option maxHeartbeats 1000000 in
theorem find_ok (gw ga ca gn cn go co l0 c0 gh l ch : Nat) (h0 ho : Option Addr) (M : Tab) (f hd : Nat → Nat) (i : Nat) (w : World) (hM : WideAt w gw ga ca gn cn M) (hf : NatsAt w go M.n f)
    (hho : 0 < l → ho = some ⟨gh, 0, none⟩) (hh : NatsAt w gh l hd) (hl : l ≤ 100000000) (hhd : ∀ c, c < l → hd c < M.n)
    (hi : i < M.n) (hn : M.n ≤ 100000000) (hnx : ∀ i c, i < M.n → c < 8 → M.nxt i c < M.n) :
    Calls Try.prog 97 #[.pointer (some ⟨gw, 0, none⟩), .agg #[.slice (some ⟨go, 0, none⟩) M.n co, .slice h0 l0 c0], .slice ho l ch, .int .i64 i] w
      fun e w' => (∃ r : Nat, r ≤ l ∧ (∀ c, c < r → alikeB M f (hd c) i = false) ∧ (r < l → alikeB M f (hd r) i = true) ∧ e = .returned (.int .i64 r)) ∧ Below w.heap.size w w' := by
  have B2 : Below w.heap.size w (w.alloc (.cells #[.slice (some ⟨go, 0, none⟩) M.n co, .slice h0 l0 c0] 149)) :=
    (Below.refl _ _).alloc (Nat.le_refl _) _
  go_enter Try.func97, Try.ntmps97
  go_wp2
  go_loopw [9, 10, 13] (fun _ _ k' wr => ∃ k : Nat, k ≤ l ∧ k' = .int .i64 k ∧ (∀ c, c < k → alikeB M f (hd c) i = false) ∧
        Below (w.heap.size + 1) (w.alloc (.cells #[.slice (some ⟨go, 0, none⟩) M.n co, .slice h0 l0 c0] 149)) wr)
      (fun _ _ k' _ => l - (intOf k').toNat)
  case atStart => exact ⟨0, by omega, rfl, by intro c hc; omega, Below.refl _ _⟩
  case round =>
    obtain ⟨k, hk, rfl, hal, hb⟩ := hrel
    have hbw : Below w.heap.size w wr := B2.trans (hb.mono (by omega))
    have y0 := hb.cell (p := ⟨w.heap.size, 0, none⟩) (by simp)
    have y1 := hb.cell (p := ⟨w.heap.size, 1, none⟩) (by simp)
    simp at y0 y1
    by_cases hlt : k < l
    · obtain rfl := hho (by omega)
      have hk2 := hh.below hbw k hlt
      have hdk := hhd k hlt
      have HC := alike_ok gw ga ca gn cn go co 0 l0 c0 h0 M f (hd k) i wr (hM.below hbw) (hf.below hbw) hdk hi hn hnx
      have HR : Hid (∀ c, c < k → alikeB M f (hd c) i = false) := hal
      have HB : Hid (Below (w.heap.size + 1) (w.alloc (.cells #[.slice (some ⟨go, 0, none⟩) M.n co, .slice h0 l0 c0] 149)) wr) := hb
      have hbs : w.heap.size + 1 ≤ wr.heap.size := by have := hb.size; simp at this; omega
      clear hal hb hh hhd hf hM hnx hho
      cases hv : alikeB M f (hd k) i
      · rw [hv] at HC
        have HV : Hid (alikeB M f (hd k) i = false) := hv
        clear hv
        go_wp2_with (go_at_call 101; refine HC.mono ?_; rintro e w' ⟨rfl, hb'⟩)
        go_roundw
        case rel =>
          refine ⟨k + 1, by omega, by go_num, ?_, HB.out.trans (hb'.mono hbs)⟩
          intro c hc
          by_cases e : c = k
          · subst e; exact HV.out
          · exact HR.out c (by omega)
        case measure => simp [intOf]; omega
      · rw [hv] at HC
        have HV : Hid (alikeB M f (hd k) i = true) := hv
        clear hv
        go_wp2_with (go_at_call 101; refine HC.mono ?_; rintro e w' ⟨rfl, hb'⟩)
        go_ret
        exact ⟨⟨k, by omega, HR.out, fun _ => HV.out, rfl⟩, hbw.trans (hb'.mono (by omega))⟩
    · have e : k = l := by omega
      subst e
      have HR : Hid (∀ c, c < k → alikeB M f (hd c) i = false) := hal
      clear hal hb hh hhd hf hM hnx hho
      go_wp2
      go_ret
      exact ⟨⟨k, by omega, HR.out, fun h => absurd h (by omega), rfl⟩, hbw⟩
end Go.Proofs.Ytpngikmcjkjdaab

namespace Go.Proofs.Ytpngikmcjkjdaab
set_option linter.unusedVariables false
structure Cls (n : Nat) (f : Nat → Nat) (hs : List Nat) : Prop where
  lt : ∀ i, i < n → f i < hs.length
  le : ∀ i, i < n → hs.getD (f i) 0 ≤ i
  hd : ∀ c, c < hs.length → hs.getD c 0 < n ∧ f (hs.getD c 0) = c
  inc : hs.Pairwise (· < ·)
theorem alikeB_refl (M : Tab) (f : Nat → Nat) (i : Nat) : alikeB M f i i = true := by rw [alikeB_iff]; exact ⟨rfl, fun _ _ => rfl⟩
theorem alikeB_symm {M : Tab} {f : Nat → Nat} {i j : Nat} (h : alikeB M f i j = true) : alikeB M f j i = true := by
  rw [alikeB_iff] at h ⊢; exact ⟨h.1.symm, fun c hc => (h.2 c hc).symm⟩
theorem alikeB_trans {M : Tab} {f : Nat → Nat} {i j k : Nat} (h : alikeB M f i j = true) (h' : alikeB M f j k = true) : alikeB M f i k = true := by
  rw [alikeB_iff] at h h' ⊢; exact ⟨h.1.trans h'.1, fun c hc => (h.2 c hc).trans (h'.2 c hc)⟩
structure SplitRel (M : Tab) (f : Nat → Nat) (s : Nat) (os hs : List Nat) : Prop where
  len : os.length = s
  cls : Cls s (fun i => os.getD i 0) hs
  yes : ∀ i, i < s → alikeB M f (hs.getD (os.getD i 0) 0) i = true
  no : ∀ i c, i < s → c < os.getD i 0 → alikeB M f (hs.getD c 0) i = false
theorem SplitRel.nil (M : Tab) (f : Nat → Nat) : SplitRel M f 0 [] [] := by
  refine ⟨rfl, ⟨?_, ?_, ?_, by simp⟩, ?_, ?_⟩ <;> intros <;> first | omega | simp_all
theorem getD_snoc_lt (l : List Nat) (x i : Nat) (h : i < l.length) : (l ++ [x]).getD i 0 = l.getD i 0 := by
  simp [List.getD_eq_getElem?_getD, List.getElem?_append_left h]
theorem getD_snoc_eq (l : List Nat) (x : Nat) : (l ++ [x]).getD l.length 0 = x := by
  simp [List.getD_eq_getElem?_getD]
theorem SplitRel.old {M : Tab} {f : Nat → Nat} {s : Nat} {os hs : List Nat} (h : SplitRel M f s os hs) (r : Nat) (hr : r < hs.length) (hy : alikeB M f (hs.getD r 0) s = true) (hn : ∀ c, c < r → alikeB M f (hs.getD c 0) s = false) :
    SplitRel M f (s + 1) (os ++ [r]) hs := by
  have hl := h.len
  have e1 : ∀ i, i < s → (os ++ [r]).getD i 0 = os.getD i 0 := fun i hi => getD_snoc_lt os r i (by omega)
  have e2 : (os ++ [r]).getD s 0 = r := by rw [← hl]; exact getD_snoc_eq os r
  refine ⟨by simp [hl], ⟨?_, ?_, ?_, h.cls.inc⟩, ?_, ?_⟩
  · intro i hi
    show (os ++ [r]).getD i 0 < _
    by_cases e : i = s
    · subst e; rw [e2]; exact hr
    · rw [e1 i (by omega)]; exact h.cls.lt i (by omega)
  · intro i hi
    show hs.getD ((os ++ [r]).getD i 0) 0 ≤ i
    by_cases e : i = s
    · subst e; rw [e2]; have := (h.cls.hd r hr).1; omega
    · rw [e1 i (by omega)]; exact h.cls.le i (by omega)
  · intro c hc
    have := h.cls.hd c hc
    refine ⟨by omega, ?_⟩
    show (os ++ [r]).getD (hs.getD c 0) 0 = c
    rw [e1 _ this.1]; exact this.2
  · intro i hi
    by_cases e : i = s
    · subst e; rw [e2]; exact hy
    · rw [e1 i (by omega)]; exact h.yes i (by omega)
  · intro i c hi hc
    by_cases e : i = s
    · subst e; rw [e2] at hc; exact hn c hc
    · rw [e1 i (by omega)] at hc; exact h.no i c (by omega) hc
theorem SplitRel.new {M : Tab} {f : Nat → Nat} {s : Nat} {os hs : List Nat} (h : SplitRel M f s os hs) (hn : ∀ c, c < hs.length → alikeB M f (hs.getD c 0) s = false) :
    SplitRel M f (s + 1) (os ++ [hs.length]) (hs ++ [s]) := by
  have hl := h.len
  have e1 : ∀ i, i < s → (os ++ [hs.length]).getD i 0 = os.getD i 0 := fun i hi => getD_snoc_lt os _ i (by omega)
  have e2 : (os ++ [hs.length]).getD s 0 = hs.length := by rw [← hl]; exact getD_snoc_eq os _
  have e3 : ∀ c, c < hs.length → (hs ++ [s]).getD c 0 = hs.getD c 0 := fun c hc => getD_snoc_lt hs s c hc
  have e4 : (hs ++ [s]).getD hs.length 0 = s := getD_snoc_eq hs s
  refine ⟨by simp [hl], ⟨?_, ?_, ?_, ?_⟩, ?_, ?_⟩
  · intro i hi
    show (os ++ [hs.length]).getD i 0 < _
    by_cases e : i = s
    · subst e; rw [e2]; simp
    · rw [e1 i (by omega), List.length_append]; have : os.getD i 0 < hs.length := h.cls.lt i (by omega); simp only [List.length_singleton]; omega
  · intro i hi
    show (hs ++ [s]).getD ((os ++ [hs.length]).getD i 0) 0 ≤ i
    by_cases e : i = s
    · subst e; rw [e2, e4]; exact Nat.le_refl _
    · rw [e1 i (by omega), e3 _ (h.cls.lt i (by omega))]; exact h.cls.le i (by omega)
  · intro c hc
    by_cases e : c = hs.length
    · subst e; rw [e4]; exact ⟨by omega, e2⟩
    · have hc' : c < hs.length := by simp at hc; omega
      have := h.cls.hd c hc'
      rw [e3 c hc']
      exact ⟨by omega, (e1 _ this.1).trans this.2⟩
  · rw [List.pairwise_append]
    refine ⟨h.cls.inc, by simp, ?_⟩
    intro a ha b hb
    simp at hb
    subst hb
    obtain ⟨c, hc, rfl⟩ := List.getElem_of_mem ha
    have := (h.cls.hd c hc).1
    rw [List.getD_eq_getElem?_getD, List.getElem?_eq_getElem hc] at this
    exact this
  · intro i hi
    by_cases e : i = s
    · subst e; rw [e2, e4]; exact alikeB_refl M f i
    · rw [e1 i (by omega), e3 _ (h.cls.lt i (by omega))]; exact h.yes i (by omega)
  · intro i c hi hc
    by_cases e : i = s
    · subst e; rw [e2] at hc; rw [e3 c hc]; exact hn c hc
    · rw [e1 i (by omega)] at hc; rw [e3 c (by have := h.cls.lt i (by omega); omega)]; exact h.no i c (by omega) hc
theorem SplitRel.same {M : Tab} {f : Nat → Nat} {s : Nat} {os hs : List Nat} (h : SplitRel M f s os hs) (i j : Nat) (hi : i < s) (hj : j < s) : os.getD i 0 = os.getD j 0 ↔ alikeB M f i j = true := by
  constructor
  · intro e
    have h1 := h.yes i hi
    have h2 := h.yes j hj
    rw [e] at h1
    exact alikeB_trans (alikeB_symm h1) h2
  · intro e
    rcases Nat.lt_trichotomy (os.getD i 0) (os.getD j 0) with hlt | heq | hgt
    · have := h.no j _ hj hlt
      rw [alikeB_trans (h.yes i hi) e] at this; cases this
    · exact heq
    · have := h.no i _ hi hgt
      rw [alikeB_trans (h.yes j hj) (alikeB_symm e)] at this; cases this
theorem SplitRel.heads {M : Tab} {f : Nat → Nat} {s : Nat} {os hs : List Nat} (h : SplitRel M f s os hs) (c d : Nat) (hcd : c < d) (hd : d < hs.length) : alikeB M f (hs.getD c 0) (hs.getD d 0) = false := by
  have := h.cls.hd d hd
  exact h.no _ c this.1 (by rw [this.2]; exact hcd)
end Go.Proofs.Ytpngikmcjkjdaab

namespace Go.Proofs.Ytpngikmcjkjdaab
set_option linter.unusedVariables false
theorem sub_of_sorted : ∀ (l' l : List Nat), l.Pairwise (· < ·) → l'.Pairwise (· < ·) → (∀ a ∈ l, a ∈ l') → l.Sublist l' := by
  intro l'
  induction l' with
  | nil => intro l _ _ h; cases l with
    | nil => exact List.Sublist.slnil
    | cons a s => exact absurd (h a (by simp)) (by simp)
  | cons b t ih =>
    intro l hl hl' h
    cases l with
    | nil => exact List.nil_sublist _
    | cons a s =>
      rw [List.pairwise_cons] at hl hl'
      by_cases e : a = b
      · subst e
        refine List.Sublist.cons_cons a (ih s hl.2 hl'.2 ?_)
        intro x hx
        have := h x (by simp [hx])
        rcases List.mem_cons.1 this with rfl | h'
        · exact absurd (hl.1 _ hx) (by omega)
        · exact h'
      · refine List.Sublist.cons b (ih (a :: s) (List.pairwise_cons.2 hl) hl'.2 ?_)
        have ha : a ∈ t := by
          rcases List.mem_cons.1 (h a (by simp)) with h' | h'
          · exact absurd h' e
          · exact h'
        have hba := hl'.1 a ha
        intro x hx
        rcases List.mem_cons.1 (h x hx) with h' | h'
        · subst h'
          rcases List.mem_cons.1 hx with h'' | h''
          · omega
          · have := hl.1 x h''; omega
        · exact h'
theorem getD_mem (l : List Nat) (c : Nat) (h : c < l.length) : l.getD c 0 ∈ l := by
  rw [List.getD_eq_getElem?_getD, List.getElem?_eq_getElem h]; exact List.getElem_mem h
theorem mem_getD {l : List Nat} {a : Nat} (h : a ∈ l) : ∃ c, c < l.length ∧ l.getD c 0 = a := by
  obtain ⟨c, hc, rfl⟩ := List.getElem_of_mem h
  exact ⟨c, hc, by rw [List.getD_eq_getElem?_getD, List.getElem?_eq_getElem hc]; rfl⟩
theorem Cls.sub {n : Nat} {f f' : Nat → Nat} {hs hs' : List Nat} (h : Cls n f hs) (h' : Cls n f' hs') (hr : ∀ i j, i < n → j < n → f' i = f' j → f i = f j) : ∀ a ∈ hs, a ∈ hs' := by
  intro a ha
  obtain ⟨c, hc, rfl⟩ := mem_getD ha
  have h1 := h.hd c hc
  have hlt := h'.lt _ h1.1
  have hle := h'.le _ h1.1
  have h2 := h'.hd _ hlt
  have h3 := hr _ _ h2.1 h1.1 h2.2
  have h4 := h.le _ h2.1
  rw [h3, h1.2] at h4
  have : hs'.getD (f' (hs.getD c 0)) 0 = hs.getD c 0 := by omega
  rw [← this]
  exact getD_mem _ _ hlt
theorem Cls.len_le {n : Nat} {f f' : Nat → Nat} {hs hs' : List Nat} (h : Cls n f hs) (h' : Cls n f' hs') (hr : ∀ i j, i < n → j < n → f' i = f' j → f i = f j) : hs.length ≤ hs'.length :=
  (sub_of_sorted hs' hs h.inc h'.inc (h.sub h' hr)).length_le
theorem Cls.eq_of_len {n : Nat} {f f' : Nat → Nat} {hs hs' : List Nat} (h : Cls n f hs) (h' : Cls n f' hs') (hr : ∀ i j, i < n → j < n → f' i = f' j → f i = f j) (hl : hs.length = hs'.length) :
    hs = hs' ∧ ∀ i, i < n → f i = f' i := by
  have e := (sub_of_sorted hs' hs h.inc h'.inc (h.sub h' hr)).eq_of_length hl
  subst e
  refine ⟨rfl, fun i hi => ?_⟩
  have h1 := h'.hd _ (h'.lt i hi)
  have h2 := hr _ _ h1.1 hi h1.2
  rw [← h2]
  exact (h.hd _ (h'.lt i hi)).2
theorem notes_cons {c : Nat} {x : List Nat} (hc : c < 8) (hx : Notes x) : Notes (c :: x) := by
  intro d hd
  rcases List.mem_cons.1 hd with h | h
  · omega
  · exact hx d h
def Apart (M : Tab) (i j : Nat) : Prop := ∃ x, Notes x ∧ M.acc (M.read i x) ≠ M.acc (M.read j x)
structure Mid (M : Tab) (f : Nat → Nat) (hs : List Nat) : Prop where
  cls : Cls M.n f hs
  apart : ∀ i j, i < M.n → j < M.n → f i ≠ f j → Apart M i j
theorem apart_of_not_alike {M : Tab} {f : Nat → Nat} (hnx : ∀ i c, i < M.n → c < 8 → M.nxt i c < M.n) (hap : ∀ i j, i < M.n → j < M.n → f i ≠ f j → Apart M i j) (i j : Nat) (hi : i < M.n) (hj : j < M.n) (h : alikeB M f i j = false) : Apart M i j := by
  rw [Bool.eq_false_iff] at h
  by_cases ha : M.acc i = M.acc j
  · have : ¬ ∀ c, c < 8 → f (M.nxt i c) = f (M.nxt j c) := fun hc => h ((alikeB_iff M f i j).2 ⟨ha, hc⟩)
    have : ∃ c, c < 8 ∧ f (M.nxt i c) ≠ f (M.nxt j c) := Classical.byContradiction fun hn => this fun c hc => Classical.byContradiction fun hne => hn ⟨c, hc, hne⟩
    obtain ⟨c, hc, hne⟩ := this
    obtain ⟨x, hx, hd⟩ := hap _ _ (hnx i c hi hc) (hnx j c hj hc) hne
    exact ⟨c :: x, notes_cons hc hx, by simpa [Tab.read] using hd⟩
  · exact ⟨[], by intro c hc; simp at hc, by simpa [Tab.read] using ha⟩
theorem Mid.step {M : Tab} {f : Nat → Nat} {hs os hs' : List Nat} (hnx : ∀ i c, i < M.n → c < 8 → M.nxt i c < M.n) (h : Mid M f hs) (h' : SplitRel M f M.n os hs') : Mid M (fun i => os.getD i 0) hs' where
  cls := h'.cls
  apart i j hi hj hne := apart_of_not_alike hnx h.apart i j hi hj (by
    rw [Bool.eq_false_iff]; intro e; exact hne ((h'.same i j hi hj).2 e))
theorem Mid.first {M : Tab} (hn : 1 ≤ M.n) : Mid M (fun _ => 0) [0] where
  cls := ⟨fun _ _ => by simp, fun i _ => by simp, fun c hc => by
    have : c = 0 := by simp at hc; omega
    subst this; exact ⟨by simp; omega, rfl⟩, by simp⟩
  apart i j _ _ h := absurd rfl h
def Fine (M : Tab) (f : Nat → Nat) : Prop := ∀ i j, i < M.n → j < M.n → alikeB M f i j = true → f i = f j
theorem Fine.first (M : Tab) : Fine M (fun _ => 0) := fun _ _ _ _ _ => rfl
theorem Fine.step {M : Tab} {f : Nat → Nat} {os hs' : List Nat} (hnx : ∀ i c, i < M.n → c < 8 → M.nxt i c < M.n) (h : Fine M f) (h' : SplitRel M f M.n os hs') : Fine M (fun i => os.getD i 0) := by
  intro i j hi hj ha
  show os.getD i 0 = os.getD j 0
  rw [h'.same i j hi hj, alikeB_iff]
  rw [alikeB_iff] at ha
  refine ⟨ha.1, fun c hc => ?_⟩
  have := ha.2 c hc
  have := (h'.same _ _ (hnx i c hi hc) (hnx j c hj hc)).1 this
  exact h _ _ (hnx i c hi hc) (hnx j c hj hc) this
theorem split_len_le {M : Tab} {f : Nat → Nat} {hs os hs' : List Nat} (h : Mid M f hs) (hf : Fine M f) (h' : SplitRel M f M.n os hs') : hs.length ≤ hs'.length :=
  h.cls.len_le h'.cls fun i j hi hj e => hf i j hi hj ((h'.same i j hi hj).1 e)
structure Stable (M : Tab) (f : Nat → Nat) (hs : List Nat) : Prop where
  mid : Mid M f hs
  acc : ∀ i j, i < M.n → j < M.n → f i = f j → M.acc i = M.acc j
  nxt : ∀ i j c, i < M.n → j < M.n → c < 8 → f i = f j → f (M.nxt i c) = f (M.nxt j c)
theorem stable_of_len {M : Tab} {f : Nat → Nat} {hs os hs' : List Nat} (hnx : ∀ i c, i < M.n → c < 8 → M.nxt i c < M.n) (h : Mid M f hs) (hf : Fine M f) (h' : SplitRel M f M.n os hs') (hl : hs'.length = hs.length) :
    Stable M (fun i => os.getD i 0) hs' := by
  obtain ⟨e, hs⟩ := h.cls.eq_of_len h'.cls (fun i j hi hj e => hf i j hi hj ((h'.same i j hi hj).1 e)) hl.symm
  refine ⟨h.step hnx h', fun i j hi hj e => ?_, fun i j c hi hj hc e => ?_⟩
  · exact ((alikeB_iff M f i j).1 ((h'.same i j hi hj).1 e)).1
  · have := ((alikeB_iff M f i j).1 ((h'.same i j hi hj).1 e)).2 c hc
    rw [hs _ (hnx i c hi hc), hs _ (hnx j c hj hc)] at this
    exact this
def merged (M : Tab) (f : Nat → Nat) (hs : List Nat) : Tab where
  n := hs.length
  acc k := M.acc (hs.getD k 0)
  nxt k c := f (M.nxt (hs.getD k 0) c)
theorem merged_read {M : Tab} {f : Nat → Nat} {hs : List Nat} (hnx : ∀ i c, i < M.n → c < 8 → M.nxt i c < M.n) (h : Stable M f hs) (i : Nat) (hi : i < M.n) (x : List Nat) (hx : Notes x) :
    (merged M f hs).read (f i) x = f (M.read i x) ∧ M.read i x < M.n := by
  induction x generalizing i with
  | nil => exact ⟨rfl, hi⟩
  | cons c x ih =>
    have hc : c < 8 := hx c (by simp)
    have hx' : Notes x := fun d hd => hx d (by simp [hd])
    have h1 := h.mid.cls.hd _ (h.mid.cls.lt i hi)
    have e : (merged M f hs).nxt (f i) c = f (M.nxt i c) := h.nxt _ _ c h1.1 hi hc h1.2
    simp only [Tab.read, List.foldl_cons, e]
    exact ih _ (hnx i c hi hc) hx'
theorem merged_acc {M : Tab} {f : Nat → Nat} {hs : List Nat} (h : Stable M f hs) (i : Nat) (hi : i < M.n) : (merged M f hs).acc (f i) = M.acc i := by
  have h1 := h.mid.cls.hd _ (h.mid.cls.lt i hi)
  exact h.acc _ _ h1.1 hi h1.2
theorem cls_zero {n : Nat} {f : Nat → Nat} {hs : List Nat} (h : Cls n f hs) (hn : 1 ≤ n) : f 0 = 0 ∧ hs.getD 0 0 = 0 := by
  have hl := h.lt 0 (by omega)
  have hle := h.le 0 (by omega)
  have hpos : 0 < hs.length := by omega
  have h0 := h.hd 0 hpos
  have e : hs.getD (f 0) 0 = 0 := by omega
  by_cases hf : f 0 = 0
  · rw [hf] at e; exact ⟨hf, e⟩
  · have := (List.pairwise_iff_getElem.1 h.inc) 0 (f 0) hpos hl (by omega)
    rw [List.getD_eq_getElem?_getD, List.getElem?_eq_getElem hl] at e
    simp at e
    omega
theorem merged_accepts {M : Tab} {f : Nat → Nat} {hs : List Nat} (hnx : ∀ i c, i < M.n → c < 8 → M.nxt i c < M.n) (h : Stable M f hs) (hn : 1 ≤ M.n) (x : List Nat) (hx : Notes x) : (merged M f hs).accepts x = M.accepts x := by
  have h0 := (cls_zero h.mid.cls hn).1
  have h1 := merged_read hnx h 0 (by omega) x hx
  rw [h0] at h1
  rw [Tab.accepts, h1.1, merged_acc h _ h1.2, Tab.accepts]
theorem merged_apart {M : Tab} {f : Nat → Nat} {hs : List Nat} (hnx : ∀ i c, i < M.n → c < 8 → M.nxt i c < M.n) (h : Stable M f hs) (k l : Nat) (hk : k < hs.length) (hl : l < hs.length) (hne : k ≠ l) : Apart (merged M f hs) k l := by
  have h1 := h.mid.cls.hd k hk
  have h2 := h.mid.cls.hd l hl
  obtain ⟨x, hx, hd⟩ := h.mid.apart _ _ h1.1 h2.1 (by rw [h1.2, h2.2]; exact hne)
  have r1 := merged_read hnx h _ h1.1 x hx
  have r2 := merged_read hnx h _ h2.1 x hx
  rw [h1.2] at r1
  rw [h2.2] at r2
  refine ⟨x, hx, ?_⟩
  rw [r1.1, r2.1, merged_acc h _ r1.2, merged_acc h _ r2.2]
  exact hd
end Go.Proofs.Ytpngikmcjkjdaab

namespace Go.Proofs.Ytpngikmcjkjdaab
set_option linter.unusedVariables false
def come (X : Nat → Nat → Nat) : Nat → Nat
  | 0 => 1
  | p + 1 => max (come X p) (X (p / 8) (p % 8) + 1)
theorem come_mono (X : Nat → Nat → Nat) {p q : Nat} (h : p ≤ q) : come X p ≤ come X q := by
  induction q with
  | zero => have : p = 0 := by omega
            subst this; exact Nat.le_refl _
  | succ q ih =>
    by_cases e : p = q + 1
    · subst e; exact Nat.le_refl _
    · exact Nat.le_trans (ih (by omega)) (by simp only [come]; exact Nat.le_max_left _ _)
theorem lt_come (X : Nat → Nat → Nat) {p q : Nat} (h : p < q) : X (p / 8) (p % 8) < come X q := by
  have : come X (p + 1) ≤ come X q := come_mono X h
  simp only [come] at this
  have := Nat.le_max_right (come X p) (X (p / 8) (p % 8) + 1)
  omega
theorem come_pos (X : Nat → Nat → Nat) (p : Nat) : 1 ≤ come X p := come_mono X (Nat.zero_le p)
structure Numbered (M : Tab) : Prop where
  pos : 1 ≤ M.n
  nx : ∀ i c, i < M.n → c < 8 → M.nxt i c < M.n
  step : ∀ p, p < 8 * M.n → M.nxt (p / 8) (p % 8) ≤ come M.nxt p
  row : ∀ i, i < M.n → i < come M.nxt (8 * i)
  all : come M.nxt (8 * M.n) = M.n
theorem come_le {M : Tab} (h : Numbered M) : ∀ p, p ≤ 8 * M.n → come M.nxt p ≤ M.n := by
  intro p hp
  rw [← h.all]; exact come_mono _ hp
theorem Numbered.first {M : Tab} (h : Numbered M) (s : Nat) (h0 : 0 < s) (hs : s < M.n) : ∃ p, p < 8 * s ∧ M.nxt (p / 8) (p % 8) = s ∧ come M.nxt p = s := by
  have hrow := h.row s hs
  have : ∀ q, q ≤ 8 * s → s < come M.nxt q → ∃ p, p < q ∧ M.nxt (p / 8) (p % 8) = s ∧ come M.nxt p = s := by
    intro q
    induction q with
    | zero => intro _ hc; simp [come] at hc; omega
    | succ q ih =>
      intro hq hc
      by_cases hlt : s < come M.nxt q
      · obtain ⟨p, hp, h1, h2⟩ := ih (by omega) hlt
        exact ⟨p, by omega, h1, h2⟩
      · have hst := h.step q (by omega)
        simp only [come] at hc
        have : M.nxt (q / 8) (q % 8) = s ∧ come M.nxt q = s := by omega
        exact ⟨q, by omega, this.1, this.2⟩
  exact this (8 * s) (Nat.le_refl _) hrow
theorem Numbered.reach {M : Tab} (h : Numbered M) : ∀ s, s < M.n → ∃ x, Notes x ∧ M.read 0 x = s := by
  intro s
  induction s using Nat.strongRecOn with
  | _ s ih =>
    intro hs
    by_cases h0 : s = 0
    · subst h0; exact ⟨[], by intro c hc; simp at hc, rfl⟩
    · obtain ⟨p, hp, h1, _⟩ := h.first s (by omega) hs
      obtain ⟨x, hx, hr⟩ := ih (p / 8) (by omega) (by omega)
      refine ⟨x ++ [p % 8], ?_, ?_⟩
      · intro c hc
        rcases List.mem_append.1 hc with h' | h'
        · exact hx c h'
        · simp at h'; omega
      · rw [Tab.read_snoc, hr, h1]
theorem Numbered.read_lt {M : Tab} (h : Numbered M) (s : Nat) (hs : s < M.n) (x : List Nat) (hx : Notes x) : M.read s x < M.n := by
  induction x generalizing s with
  | nil => exact hs
  | cons c x ih =>
    simp only [Tab.read, List.foldl_cons]
    exact ih (M.nxt s c) (h.nx s c hs (hx c (by simp))) (fun d hd => hx d (by simp [hd]))
structure IsLeast (M : Tab) (L : List Nat → Bool) : Prop where
  num : Numbered M
  apart : ∀ i j, i < M.n → j < M.n → i ≠ j → Apart M i j
  lang : ∀ x, Notes x → M.accepts x = L x
structure SameTab (M N : Tab) : Prop where
  n : M.n = N.n
  acc : ∀ i, i < M.n → M.acc i = N.acc i
  nxt : ∀ i c, i < M.n → c < 8 → M.nxt i c = N.nxt i c
theorem come_congr {X Y : Nat → Nat → Nat} (q : Nat) (h : ∀ p, p < q → X (p / 8) (p % 8) = Y (p / 8) (p % 8)) : come X q = come Y q := by
  induction q with
  | zero => rfl
  | succ q ih => simp only [come]; rw [ih (fun p hp => h p (by omega)), h q (by omega)]
section
variable {M N : Tab} {L : List Nat → Bool}
theorem alike_mean (hM : IsLeast M L) (hN : IsLeast N L) (x : List Nat) (hx : Notes x) (y : List Nat) (hy : Notes y) : M.acc (M.read (M.read 0 x) y) = N.acc (N.read (N.read 0 x) y) := by
  have hxy : Notes (x ++ y) := fun c hc => by
    rcases List.mem_append.1 hc with h | h
    · exact hx c h
    · exact hy c h
  have h1 := hM.lang _ hxy
  have h2 := hN.lang _ hxy
  simp only [Tab.accepts, Tab.read_append] at h1 h2
  rw [h1, h2]
theorem meet (hM : IsLeast M L) (hN : IsLeast N L) (x y : List Nat) (hx : Notes x) (hy : Notes y) (h : M.read 0 x = M.read 0 y) : N.read 0 x = N.read 0 y := by
  apply Classical.byContradiction
  intro hne
  obtain ⟨z, hz, hd⟩ := hN.apart _ _ (hN.num.read_lt 0 hN.num.pos x hx) (hN.num.read_lt 0 hN.num.pos y hy) hne
  apply hd
  rw [← alike_mean hM hN x hx z hz, ← alike_mean hM hN y hy z hz, h]
theorem numbers_alike (hM : IsLeast M L) (hN : IsLeast N L) : ∀ s, s < M.n → s < N.n ∧ ∀ x, Notes x → M.read 0 x = s → N.read 0 x = s := by
  intro s
  induction s using Nat.strongRecOn with
  | _ s ih =>
    intro hs
    by_cases h0 : s = 0
    · subst h0
      exact ⟨hN.num.pos, fun x hx h => meet hM hN x [] hx (by intro c hc; simp at hc) h⟩
    · obtain ⟨p, hp, h1, h2⟩ := hM.num.first s (by omega) hs
      -- the rows ahead are the same
      have same : ∀ q, q < p → M.nxt (q / 8) (q % 8) = N.nxt (q / 8) (q % 8) := by
        intro q hq
        have hlt : M.nxt (q / 8) (q % 8) < s := by have := lt_come M.nxt hq; omega
        obtain ⟨x, hx, hr⟩ := hM.num.reach (q / 8) (by omega)
        have hr' := (ih (q / 8) (by omega) (by omega)).2 x hx hr
        have hx' : Notes (x ++ [q % 8]) := fun c hc => by
          rcases List.mem_append.1 hc with h | h
          · exact hx c h
          · simp at h; omega
        have e := (ih _ hlt (by omega)).2 (x ++ [q % 8]) hx' (by rw [Tab.read_snoc, hr])
        rw [Tab.read_snoc, hr'] at e
        exact e.symm
      obtain ⟨x, hx, hr⟩ := hM.num.reach (p / 8) (by omega)
      have hp8 := ih (p / 8) (by omega) (by omega)
      have hr' := hp8.2 x hx hr
      have hx' : Notes (x ++ [p % 8]) := fun c hc => by
        rcases List.mem_append.1 hc with h | h
        · exact hx c h
        · simp at h; omega
      have hread : M.read 0 (x ++ [p % 8]) = s := by rw [Tab.read_snoc, hr, h1]
      have hreadN : N.read 0 (x ++ [p % 8]) = N.nxt (p / 8) (p % 8) := by rw [Tab.read_snoc, hr']
      have hcome : come N.nxt p = s := by rw [← come_congr p same]; exact h2
      have hle : N.nxt (p / 8) (p % 8) ≤ s := by
        have := hN.num.step p (by omega); omega
      have hval : N.nxt (p / 8) (p % 8) = s := by
        rcases Nat.lt_or_ge (N.nxt (p / 8) (p % 8)) s with hlt | hge
        · exfalso
          obtain ⟨y, hy, hry⟩ := hM.num.reach (N.nxt (p / 8) (p % 8)) (by omega)
          have hyN := (ih _ hlt (by omega)).2 y hy hry
          have := meet hN hM (x ++ [p % 8]) y hx' hy (by rw [hreadN, hyN])
          rw [hread, hry] at this
          omega
        · omega
      refine ⟨?_, fun y hy hry => ?_⟩
      · have := hN.num.read_lt 0 hN.num.pos _ hx'
        rw [hreadN, hval] at this; exact this
      · have := meet hM hN y (x ++ [p % 8]) hy hx' (by rw [hry, hread])
        rw [this, hreadN, hval]
theorem least_unique (hM : IsLeast M L) (hN : IsLeast N L) : SameTab M N := by
  have a := numbers_alike hM hN
  have b := numbers_alike hN hM
  have hn : M.n = N.n := by
    apply Nat.le_antisymm
    · apply Nat.le_of_not_lt; intro h; have := (a N.n h).1; omega
    · apply Nat.le_of_not_lt; intro h; have := (b M.n h).1; omega
  refine ⟨hn, fun i hi => ?_, fun i c hi hc => ?_⟩
  · obtain ⟨x, hx, hr⟩ := hM.num.reach i hi
    have h1 := hM.lang x hx
    have h2 := hN.lang x hx
    rw [Tab.accepts, hr] at h1
    rw [Tab.accepts, (a i hi).2 x hx hr] at h2
    rw [h1, h2]
  · obtain ⟨x, hx, hr⟩ := hM.num.reach i hi
    have hx' : Notes (x ++ [c]) := fun d hd => by
      rcases List.mem_append.1 hd with h | h
      · exact hx d h
      · simp at h; omega
    have e := (a _ (hM.num.nx i c hi hc)).2 (x ++ [c]) hx' (by rw [Tab.read_snoc, hr])
    rw [Tab.read_snoc, (a i hi).2 x hx hr] at e
    exact e.symm
end
def gm (f : Nat → Nat) : Nat → Nat
  | 0 => 0
  | m + 1 => max (gm f m) (f m + 1)
theorem gm_mono (f : Nat → Nat) {p q : Nat} (h : p ≤ q) : gm f p ≤ gm f q := by
  induction q with
  | zero => have : p = 0 := by omega
            subst this; exact Nat.le_refl _
  | succ q ih =>
    by_cases e : p = q + 1
    · subst e; exact Nat.le_refl _
    · exact Nat.le_trans (ih (by omega)) (by simp only [gm]; exact Nat.le_max_left _ _)
theorem gm_lt (f : Nat → Nat) {s m : Nat} (h : s < m) : f s < gm f m := by
  have : gm f (s + 1) ≤ gm f m := gm_mono f h
  simp only [gm] at this
  have := Nat.le_max_right (gm f s) (f s + 1)
  omega
theorem gm_ex (f : Nat → Nat) {m k : Nat} (h : k < gm f m) : ∃ s, s < m ∧ k ≤ f s := by
  induction m with
  | zero => simp [gm] at h
  | succ m ih =>
    by_cases e : k < gm f m
    · obtain ⟨s, hs, hk⟩ := ih e; exact ⟨s, by omega, hk⟩
    · simp only [gm] at h; exact ⟨m, by omega, by omega⟩
section
variable {n : Nat} {f : Nat → Nat} {hs : List Nat}
theorem Cls.sorted (h : Cls n f hs) {c d : Nat} (hcd : c < d) (hd : d < hs.length) : hs.getD c 0 < hs.getD d 0 := by
  have := (List.pairwise_iff_getElem.1 h.inc) c d (by omega) hd hcd
  rw [List.getD_eq_getElem?_getD, List.getElem?_eq_getElem (by omega), List.getD_eq_getElem?_getD, List.getElem?_eq_getElem hd]
  exact this
theorem Cls.growth (h : Cls n f hs) (s : Nat) (hs' : s < n) : f s ≤ gm f s := by
  by_cases h0 : f s = 0
  · omega
  · have hl := h.lt s hs'
    have h1 := h.sorted (c := f s - 1) (d := f s) (by omega) hl
    have h2 := h.le s hs'
    have h3 := h.hd (f s - 1) (by omega)
    have := gm_lt f (s := hs.getD (f s - 1) 0) (m := s) (by omega)
    rw [h3.2] at this
    omega
theorem Cls.head (h : Cls n f hs) (s : Nat) (hs' : s < n) (e : hs.getD (f s) 0 = s) : f s = gm f s := by
  have := h.growth s hs'
  apply Nat.le_antisymm this
  apply Nat.le_of_not_lt
  intro hlt
  obtain ⟨s', h1, h2⟩ := gm_ex f hlt
  have h3 := h.le s' (by omega)
  rcases Nat.lt_or_ge (f s) (f s') with hl | hge
  · have := h.sorted hl (h.lt s' (by omega)); omega
  · have : f s' = f s := by omega
    rw [this] at h3; omega
theorem Cls.nohead (h : Cls n f hs) (s : Nat) (hs' : s < n) (e : hs.getD (f s) 0 ≠ s) : f s < gm f s := by
  have h2 := h.le s hs'
  have h3 := h.hd _ (h.lt s hs')
  have := gm_lt f (s := hs.getD (f s) 0) (m := s) (by omega)
  rw [h3.2] at this; exact this
theorem Cls.total (h : Cls n f hs) : gm f n = hs.length := by
  apply Nat.le_antisymm
  · apply Nat.le_of_not_lt; intro hlt
    obtain ⟨s, h1, h2⟩ := gm_ex f hlt
    have := h.lt s h1; omega
  · apply Nat.le_of_not_lt; intro hlt
    have h3 := h.hd _ hlt
    have := gm_lt f h3.1
    rw [h3.2] at this; omega
end
theorem merged_row {M : Tab} {f : Nat → Nat} {hs : List Nat} (hM : Numbered M) (h : Stable M f hs) (s : Nat) (hs' : s < M.n) (hh : hs.getD (f s) 0 = s) (h0 : come (merged M f hs).nxt (8 * f s) = gm f (come M.nxt (8 * s))) :
    ∀ c, c ≤ 8 → come (merged M f hs).nxt (8 * f s + c) = gm f (come M.nxt (8 * s + c)) := by
  intro c
  induction c with
  | zero => intro _; exact h0
  | succ c ih =>
    intro hc
    have ih' := ih (by omega)
    have e1 : (8 * f s + c) / 8 = f s := by omega
    have e2 : (8 * f s + c) % 8 = c := by omega
    have e3 : (8 * s + c) / 8 = s := by omega
    have e4 : (8 * s + c) % 8 = c := by omega
    have hst := hM.step (8 * s + c) (by omega)
    rw [← Nat.add_assoc, ← Nat.add_assoc]
    simp only [come, e1, e2, e3, e4] at hst ⊢
    rw [ih']
    have : (merged M f hs).nxt (f s) c = f (M.nxt s c) := by simp only [merged]; rw [hh]
    rw [this]
    generalize come M.nxt (8 * s + c) = m at *
    generalize M.nxt s c = x at *
    rcases Nat.lt_or_ge x m with hl | hge
    · have h1 := gm_lt f hl
      rw [show max m (x + 1) = m by omega]; omega
    · have : x = m := by omega
      subst this
      rw [show max x (x + 1) = x + 1 by omega]; simp only [gm]
theorem merged_skip {M : Tab} {f : Nat → Nat} {hs : List Nat} (hM : Numbered M) (h : Stable M f hs) (s : Nat) (hs' : s < M.n) (hh : hs.getD (f s) 0 ≠ s) :
    ∀ c, c ≤ 8 → gm f (come M.nxt (8 * s + c)) = gm f (come M.nxt (8 * s)) := by
  intro c
  induction c with
  | zero => intro _; rfl
  | succ c ih =>
    intro hc
    have ih' := ih (by omega)
    have e3 : (8 * s + c) / 8 = s := by omega
    have e4 : (8 * s + c) % 8 = c := by omega
    have hst := hM.step (8 * s + c) (by omega)
    have hle := h.mid.cls.le s hs'
    have hd := h.mid.cls.hd _ (h.mid.cls.lt s hs')
    have hq : M.nxt (hs.getD (f s) 0) c < come M.nxt (8 * s) := by
      have := lt_come M.nxt (p := 8 * hs.getD (f s) 0 + c) (q := 8 * s) (by omega)
      rw [show (8 * hs.getD (f s) 0 + c) / 8 = hs.getD (f s) 0 by omega, show (8 * hs.getD (f s) 0 + c) % 8 = c by omega] at this
      exact this
    have hcl := gm_lt f hq
    rw [h.nxt _ _ c hd.1 hs' (by omega) hd.2] at hcl
    rw [← Nat.add_assoc]
    simp only [come, e3, e4] at hst ⊢
    rw [← ih'] at hcl ⊢
    generalize come M.nxt (8 * s + c) = m at *
    generalize M.nxt s c = x at *
    rcases Nat.lt_or_ge x m with hl | hge
    · rw [show max m (x + 1) = m by omega]
    · have : x = m := by omega
      subst this
      rw [show max x (x + 1) = x + 1 by omega]; simp only [gm]; omega
theorem merged_come {M : Tab} {f : Nat → Nat} {hs : List Nat} (hM : Numbered M) (h : Stable M f hs) : ∀ s, s ≤ M.n → come (merged M f hs).nxt (8 * gm f s) = gm f (come M.nxt (8 * s)) := by
  intro s
  induction s with
  | zero => intro _; have := (cls_zero h.mid.cls hM.pos).1; simp [gm, come, this]
  | succ s ih =>
    intro hs'
    have ih' := ih (by omega)
    by_cases hh : hs.getD (f s) 0 = s
    · have e := h.mid.cls.head s (by omega) hh
      have e2 : gm f (s + 1) = f s + 1 := by simp only [gm]; omega
      rw [← e] at ih'
      have := merged_row hM h s (by omega) hh ih' 8 (Nat.le_refl _)
      rw [e2, show 8 * (f s + 1) = 8 * f s + 8 by omega, show 8 * (s + 1) = 8 * s + 8 by omega]
      exact this
    · have e := h.mid.cls.nohead s (by omega) hh
      have e2 : gm f (s + 1) = gm f s := by simp only [gm]; omega
      rw [e2, ih', show 8 * (s + 1) = 8 * s + 8 by omega]
      exact (merged_skip hM h s (by omega) hh 8 (Nat.le_refl _)).symm
theorem merged_numbered {M : Tab} {f : Nat → Nat} {hs : List Nat} (hM : Numbered M) (h : Stable M f hs) : Numbered (merged M f hs) := by
  have hc := h.mid.cls
  have hrow : ∀ k, k < hs.length → ∀ c, c ≤ 8 → come (merged M f hs).nxt (8 * k + c) = gm f (come M.nxt (8 * hs.getD k 0 + c)) := by
    intro k hk c hc8
    have hd := hc.hd k hk
    have hh : hs.getD (f (hs.getD k 0)) 0 = hs.getD k 0 := by rw [hd.2]
    have e := hc.head _ hd.1 hh
    have h0 := merged_come hM h (hs.getD k 0) (by omega)
    rw [← e] at h0
    have := merged_row hM h _ hd.1 hh h0 c hc8
    rw [hd.2] at this; exact this
  refine ⟨?_, ?_, ?_, ?_, ?_⟩
  · have := hc.lt 0 hM.pos; show 1 ≤ hs.length; omega
  · intro k c hk hc8
    have hd := hc.hd k hk
    exact hc.lt _ (hM.nx _ c hd.1 hc8)
  · intro p hp
    have hk : p / 8 < hs.length := by have : p < 8 * hs.length := hp; omega
    have hd := hc.hd _ hk
    have e := hrow (p / 8) hk (p % 8) (by omega)
    rw [show 8 * (p / 8) + p % 8 = p by omega] at e
    rw [e]
    have hst := hM.step (8 * hs.getD (p / 8) 0 + p % 8) (by omega)
    rw [show (8 * hs.getD (p / 8) 0 + p % 8) / 8 = hs.getD (p / 8) 0 by omega, show (8 * hs.getD (p / 8) 0 + p % 8) % 8 = p % 8 by omega] at hst
    have hnx := hM.nx _ (p % 8) hd.1 (by omega)
    show f (M.nxt (hs.getD (p / 8) 0) (p % 8)) ≤ _
    generalize come M.nxt (8 * hs.getD (p / 8) 0 + p % 8) = m at *
    generalize M.nxt (hs.getD (p / 8) 0) (p % 8) = x at *
    rcases Nat.lt_or_ge x m with hl | hge
    · have := gm_lt f hl; omega
    · have : x = m := by omega
      subst this; exact hc.growth _ hnx
  · intro k hk
    have hd := hc.hd k hk
    have e := hrow k hk 0 (by omega)
    simp only [Nat.add_zero] at e
    rw [e]
    have := gm_lt f (hM.row _ hd.1)
    rw [hd.2] at this; exact this
  · have := merged_come hM h M.n (Nat.le_refl _)
    rw [hc.total, hM.all, hc.total] at this
    exact this
theorem merged_least {M : Tab} {f : Nat → Nat} {hs : List Nat} {L : List Nat → Bool} (hM : Numbered M) (h : Stable M f hs) (hL : ∀ x, Notes x → M.accepts x = L x) : IsLeast (merged M f hs) L where
  num := merged_numbered hM h
  apart k l hk hl hne := merged_apart hM.nx h k l hk hl hne
  lang x hx := by rw [merged_accepts hM.nx h hM.pos x hx]; exact hL x hx
end Go.Proofs.Ytpngikmcjkjdaab
