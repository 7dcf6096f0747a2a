import Derived.BigQuiet
import Derived.Deep.QuietTactic
import Derived.WalkKit
import Derived.WalkLawsBesides
import Derived.WalkSpells
import Derived.Test.YtpngikmcjkjdaabProg
set_option linter.unusedVariables false
set_option linter.unusedSimpArgs false
namespace Go.Proofs.Ytpngikmcjkjdaab
open Go.RowKit
set_option linter.unusedVariables false
theorem ret_bool {a b : Bool} (h : a = b) : Ending.returned (.bool a) = .returned (.bool b) := by rw [h]
theorem ret_int {k : IntKind} {a b : Int} (h : a = b) : Ending.returned (.int k a) = .returned (.int k b) := by rw [h]
theorem bcell {W w1 : World} (hb : Below W.heap.size W w1) : (∀ b o, b < W.heap.size → w1.cell? ⟨b, o, none⟩ = W.cell? ⟨b, o, none⟩) ∧ (∀ b o, b < W.heap.size → w1.frozen? ⟨b, o, none⟩ = W.frozen? ⟨b, o, none⟩) :=
  ⟨fun b o h => hb.cell (p := ⟨b, o, none⟩) h, fun b o h => hb.frozen (p := ⟨b, o, none⟩) h⟩
theorem lt_of_cell {w : World} {b o : Nat} {v : Value} (h : w.cell? ⟨b, o, none⟩ = some v) : b < w.heap.size := by
  rcases Nat.lt_or_ge b w.heap.size with hlt | hge
  · exact hlt
  · exfalso
    have hn : w.heap[b]? = none := by simp; omega
    simp [World.cell?, hn] at h
end Go.Proofs.Ytpngikmcjkjdaab

namespace Go.Proofs.Ytpngikmcjkjdaab
open Go.RowKit
set_option linter.unusedVariables false
set_option linter.unusedSimpArgs false
abbrev Bs := List UInt8
theorem bl_irrefl : ∀ x : Bs, Op.bytesLess x x = false
  | [] => rfl
  | a :: x => by simp [Op.bytesLess, bl_irrefl x]
theorem bl_cons (a b : UInt8) (x y : Bs) : Op.bytesLess (a :: x) (b :: y) = true ↔ a < b ∨ (a = b ∧ Op.bytesLess x y = true) := by
  simp [Op.bytesLess]
theorem bl_trans : ∀ x y z : Bs, Op.bytesLess x y = true → Op.bytesLess y z = true → Op.bytesLess x z = true
  | [], [], _, h, _ => by simp [Op.bytesLess] at h
  | [], _ :: _, [], _, h => by simp [Op.bytesLess] at h
  | [], _ :: _, _ :: _, _, _ => by simp [Op.bytesLess]
  | _ :: _, [], _, h, _ => by simp [Op.bytesLess] at h
  | _ :: _, _ :: _, [], _, h => by simp [Op.bytesLess] at h
  | a :: x, b :: y, c :: z, h1, h2 => by
    rw [bl_cons] at h1 h2 ⊢
    rcases h1 with h1 | ⟨rfl, h1⟩
    · rcases h2 with h2 | ⟨rfl, h2⟩
      · exact .inl (by simp only [UInt8.lt_iff_toNat_lt] at *; omega)
      · exact .inl h1
    · rcases h2 with h2 | ⟨rfl, h2⟩
      · exact .inl h2
      · exact .inr ⟨rfl, bl_trans x y z h1 h2⟩
theorem bl_tri : ∀ x y : Bs, Op.bytesLess x y = false → x ≠ y → Op.bytesLess y x = true
  | [], [], _, h => absurd rfl h
  | [], _ :: _, h, _ => by simp [Op.bytesLess] at h
  | _ :: _, [], _, _ => by simp [Op.bytesLess]
  | a :: x, b :: y, h, hne => by
    rw [Bool.eq_false_iff, ne_eq, bl_cons] at h
    rw [bl_cons]
    by_cases e : a = b
    · subst e
      refine .inr ⟨rfl, bl_tri x y (by rw [Bool.eq_false_iff]; exact fun h' => h (.inr ⟨rfl, h'⟩)) (fun e => hne (by rw [e]))⟩
    · left
      have h1 : ¬ a < b := fun h' => h (.inl h')
      have h2 : a.toNat ≠ b.toNat := fun h' => e (UInt8.toNat_inj.1 h')
      simp only [UInt8.lt_iff_toNat_lt] at *
      omega
theorem bl_asymm {x y : Bs} (h : Op.bytesLess x y = true) : Op.bytesLess y x = false := by
  rw [Bool.eq_false_iff]
  intro h'
  have := bl_trans _ _ _ h h'
  rw [bl_irrefl] at this
  cases this
def Srt (t : Nat → Bs) (n : Nat) : Prop := ∀ i j, i < j → j < n → Op.bytesLess (t i) (t j) = true
def lsb (s : ByteArray) : Bs := s.data.toList
theorem lsb_inj {a b : ByteArray} (h : lsb a = lsb b) : a = b := by
  cases a; cases b; simp only [lsb] at h; congr 1; exact Array.ext' h
def less (a b : ByteArray) : Bool := Op.bytesLess a.toList b.toList
theorem less_def (a b : ByteArray) : less a b = Op.bytesLess (lsb a) (lsb b) := by rw [less, ByteArray.toList_eq, ByteArray.toList_eq]; rfl
theorem beq_str (a b : ByteArray) : (a.toList == b.toList) = decide (a = b) := by
  rw [ByteArray.toList_eq, ByteArray.toList_eq]
  by_cases h : a = b
  · subst h; simp
  · have : lsb a ≠ lsb b := fun e => h (lsb_inj e)
    simp only [h, decide_false, beq_eq_false_iff_ne, ne_eq]
    exact this
theorem less_irrefl (a : ByteArray) : less a a = false := by rw [less_def, bl_irrefl]
theorem less_trans {a b c : ByteArray} (h1 : less a b = true) (h2 : less b c = true) : less a c = true := by rw [less_def] at *; exact bl_trans _ _ _ h1 h2
theorem less_tri {a b : ByteArray} (h : less a b = false) (hne : a ≠ b) : less b a = true := by rw [less_def] at *; exact bl_tri _ _ h (fun e => hne (lsb_inj e))
theorem less_asymm {a b : ByteArray} (h : less a b = true) : less b a = false := by rw [less_def] at *; exact bl_asymm h
theorem less_ne {a b : ByteArray} (h : less a b = true) : a ≠ b := by rintro rfl; rw [less_irrefl] at h; cases h
def SrtB (t : Nat → ByteArray) (n : Nat) : Prop := ∀ i j, i < j → j < n → less (t i) (t j) = true
theorem SrtB.srt {t : Nat → ByteArray} {n : Nat} (h : SrtB t n) : Srt (fun i => lsb (t i)) n := fun i j h1 h2 => by rw [← less_def]; exact h i j h1 h2
structure IsPl (t : Nat → ByteArray) (n : Nat) (s : ByteArray) (p : Nat) : Prop where
  le : p ≤ n
  lo : ∀ j, j < p → less (t j) s = true
  at' : p < n → less (t p) s = false
section
variable {t : Nat → ByteArray} {n p : Nat} {s : ByteArray}
theorem IsPl.hi (h : IsPl t n s p) (hs : SrtB t n) (j : Nat) (h1 : p ≤ j) (h2 : j < n) : less (t j) s = false := by
  have h0 := h.at' (by omega)
  by_cases e : p = j
  · rw [← e]; exact h0
  · rw [Bool.eq_false_iff]
    intro h'
    have := less_trans (hs p j (by omega) h2) h'
    rw [h0] at this; cases this
theorem IsPl.stands (h : IsPl t n s p) (hs : SrtB t n) : (∃ j, j < n ∧ t j = s) ↔ (p < n ∧ t p = s) := by
  constructor
  · rintro ⟨j, hj, e⟩
    have h1 : p ≤ j := by
      apply Nat.le_of_not_lt
      intro hlt
      exact less_ne (h.lo j hlt) e
    by_cases e' : p = j
    · subst e'; exact ⟨hj, e⟩
    · have := hs p j (by omega) hj
      rw [e, h.at' (by omega)] at this; cases this
  · rintro ⟨h1, h2⟩; exact ⟨p, h1, h2⟩
theorem IsPl.gt (h : IsPl t n s p) (hs : SrtB t n) (hn : ¬ (p < n ∧ t p = s)) (j : Nat) (h1 : p ≤ j) (h2 : j < n) : less s (t j) = true := by
  refine less_tri (h.hi hs j h1 h2) ?_
  intro e
  exact hn ((h.stands hs).1 ⟨j, h2, e⟩)
def ins (t : Nat → ByteArray) (p : Nat) (s : ByteArray) : Nat → ByteArray := fun j => if j < p then t j else if j = p then s else t (j - 1)
def del (t : Nat → ByteArray) (p : Nat) : Nat → ByteArray := fun j => if j < p then t j else t (j + 1)
theorem IsPl.ins_srt (h : IsPl t n s p) (hs : SrtB t n) (hn : ¬ (p < n ∧ t p = s)) : SrtB (ins t p s) (n + 1) := by
  intro i j h1 h2
  have hle := h.le
  unfold ins
  by_cases a : i < p
  · rw [if_pos a]
    by_cases b : j < p
    · rw [if_pos b]; exact hs i j h1 (by omega)
    · rw [if_neg b]
      by_cases c : j = p
      · rw [if_pos c]; exact h.lo i a
      · rw [if_neg c]; exact hs i (j - 1) (by omega) (by omega)
  · rw [if_neg a, if_neg (show ¬ j < p by omega), if_neg (show ¬ j = p by omega)]
    by_cases c : i = p
    · rw [if_pos c]; exact h.gt hs hn (j - 1) (by omega) (by omega)
    · rw [if_neg c]; exact hs (i - 1) (j - 1) (by omega) (by omega)
theorem del_srt (hs : SrtB t n) (hp : p < n) : SrtB (del t p) (n - 1) := by
  intro i j h1 h2
  unfold del
  by_cases a : i < p
  · rw [if_pos a]
    by_cases b : j < p
    · rw [if_pos b]; exact hs i j h1 (by omega)
    · rw [if_neg b]; exact hs i (j + 1) (by omega) (by omega)
  · rw [if_neg a, if_neg (show ¬ j < p by omega)]; exact hs (i + 1) (j + 1) (by omega) (by omega)
end
open Classical in
def strs (l : List ByteArray) : List Value := l.map .string
theorem strs_snoc (l : List ByteArray) (s : ByteArray) : strs l ++ [.string s] = strs (l ++ [s]) := by simp [strs]
end Go.Proofs.Ytpngikmcjkjdaab

namespace Go.Proofs.Ytpngikmcjkjdaab
open Go.RowKit
set_option linter.unusedVariables false
set_option maxRecDepth 20000 in
set_option maxHeartbeats 400000 in
theorem isNote_yes (b : Int) (w : World) (h1 : 97 ≤ b) (h2 : b ≤ 104) :
    Calls Try.prog 79 #[.int .u8 b] w fun e w' => e = .returned (.bool true) ∧ w' = w := by
  go_enter Try.func79, Try.ntmps79
  go_wp2
  go_ret
  exact ⟨ret_bool (by simp; omega), rfl⟩
set_option maxRecDepth 20000 in
set_option maxHeartbeats 400000 in
theorem isNote_no (b : Int) (w : World) (h1 : b < 97 ∨ 104 < b) :
    Calls Try.prog 79 #[.int .u8 b] w fun e w' => e = .returned (.bool false) ∧ w' = w := by
  rcases h1 with h | h
  · have h' : ¬ 97 ≤ b := by omega
    go_enter Try.func79, Try.ntmps79
    go_wp2
    go_ret
    exact ⟨ret_bool (by simp), rfl⟩
  · have h' : 97 ≤ b := by omega
    go_enter Try.func79, Try.ntmps79
    go_wp2
    go_ret
    exact ⟨ret_bool (by simp; omega), rfl⟩
set_option maxRecDepth 20000 in
set_option maxHeartbeats 400000 in
theorem number_yes (b : Int) (w : World) (h1 : 97 ≤ b) (h2 : b ≤ 104) :
    Calls Try.prog 58 #[.int .u8 b] w fun e w' => e = .returned (.tuple #[.int .i64 (b - 97), .bool true]) ∧ w' = w := by
  go_enter Try.func58, Try.ntmps58
  go_wp2_with fail
  refine (isNote_yes b w h1 h2).mono ?_
  rintro e w' ⟨rfl, rfl⟩
  go_wp2
  go_ret2
  exact ⟨rfl, rfl⟩
set_option maxRecDepth 20000 in
set_option maxHeartbeats 400000 in
theorem number_no (b : Int) (w : World) (h1 : b < 97 ∨ 104 < b) :
    Calls Try.prog 58 #[.int .u8 b] w fun e w' => e = .returned (.tuple #[.int .i64 0, .bool false]) ∧ w' = w := by
  go_enter Try.func58, Try.ntmps58
  go_wp2_with fail
  refine (isNote_no b w h1).mono ?_
  rintro e w' ⟨rfl, rfl⟩
  go_wp2
  go_ret2
  exact ⟨rfl, rfl⟩
def rowOk (f : Nat → Int) (n : Int) : Nat → Bool
  | 0 => true
  | k + 1 => rowOk f n k && (decide (0 ≤ f k) && decide (f k < n))
theorem rowOk_iff (f : Nat → Int) (n : Int) (k : Nat) : rowOk f n k = true ↔ ∀ c, c < k → 0 ≤ f c ∧ f c < n := by
  induction k with
  | zero => simp [rowOk]
  | succ k ih =>
    simp only [rowOk, Bool.and_eq_true, ih, decide_eq_true_eq]
    constructor
    · rintro ⟨h, h1, h2⟩ c hc
      by_cases e : c = k
      · subst e; exact ⟨h1, h2⟩
      · exact h c (by omega)
    · intro h
      exact ⟨fun c hc => h c (by omega), h k (by omega)⟩
theorem rowOk_mono (f : Nat → Int) (n : Int) (k m : Nat) (hk : k ≤ m) (h : rowOk f n k = false) : rowOk f n m = false := by
  rw [Bool.eq_false_iff] at h ⊢
  intro hm; apply h; rw [rowOk_iff] at hm ⊢; exact fun c hc => hm c (by omega)
set_option maxRecDepth 20000 in
set_option maxHeartbeats 800000 in
theorem validRow_8 (b o c : Nat) (f : Nat → Int) (n : Int) (w : World) (hc : ∀ k, k < 8 → w.cell? ⟨b, o + k, none⟩ = some (.int .i64 (f k))) :
    Calls Try.prog 76 #[.slice (some ⟨b, o, none⟩) 8 c, .int .i64 n] w fun e w' => e = .returned (.bool (rowOk f n 8)) ∧ w' = w := by
  go_enter Try.func76, Try.ntmps76
  go_wp2
  go_loop [6, 12] (fun _ i => ∃ k : Nat, k ≤ 8 ∧ i = .int .i64 k ∧ rowOk f n k = true) (fun _ i => 8 - (intOf i).toNat)
  case atStart => exact ⟨0, by omega, rfl, rfl⟩
  case round =>
    obtain ⟨k, hk, rfl, hr⟩ := hrel
    by_cases hlt : k < 8
    · have hck := hc k hlt
      by_cases h0 : f k < 0
      · have HF : Hid (rowOk f n 8 = false) := by
          apply rowOk_mono f n (k+1) 8 (by omega)
          simp only [rowOk, hr, Bool.true_and, Bool.and_eq_false_iff, decide_eq_false_iff_not]; left; omega
        clear hr hc
        go_wp2
        go_ret
        exact ⟨ret_bool HF.out.symm, rfl⟩
      · by_cases h1 : f k < n
        · have HR : Hid (rowOk f n (k+1) = true) := by
            simp only [Hid, rowOk, hr, Bool.true_and, Bool.and_eq_true, decide_eq_true_eq]; omega
          clear hr hc
          go_wp2
          go_round
          case rel => exact ⟨k + 1, by omega, by go_num, HR.out⟩
          case measure => simp [intOf]; omega
        · have HF : Hid (rowOk f n 8 = false) := by
            apply rowOk_mono f n (k+1) 8 (by omega)
            simp only [rowOk, hr, Bool.true_and, Bool.and_eq_false_iff, decide_eq_false_iff_not]; right; omega
          clear hr hc
          go_wp2
          go_ret
          exact ⟨ret_bool HF.out.symm, rfl⟩
    · have e : k = 8 := by omega
      subst e
      have HR : Hid (rowOk f n 8 = true) := hr
      clear hr hc
      go_wp2
      go_ret
      exact ⟨ret_bool HR.out.symm, rfl⟩
end Go.Proofs.Ytpngikmcjkjdaab

namespace Go.Proofs.Ytpngikmcjkjdaab
open Go.RowKit
set_option linter.unusedVariables false
structure Tab where
  n : Nat
  acc : Nat → Bool
  nxt : Nat → Nat → Nat
structure Tab.Ok (M : Tab) : Prop where
  lo : 1 ≤ M.n
  hi : M.n ≤ 40
  nx : ∀ i c, i < M.n → c < 8 → M.nxt i c < M.n
def Tab.read (M : Tab) (s : Nat) (x : List Nat) : Nat := x.foldl M.nxt s
def Tab.accepts (M : Tab) (x : List Nat) : Bool := M.acc (M.read 0 x)
def Notes (x : List Nat) : Prop := ∀ c ∈ x, c < 8
theorem Tab.read_lt {M : Tab} (h : M.Ok) (s : Nat) (hs : s < M.n) (x : List Nat) (hx : Notes x) : M.read s x < M.n := by
  induction x generalizing s with
  | nil => exact hs
  | cons c x ih =>
    simp only [Tab.read, List.foldl_cons]
    exact ih (M.nxt s c) (h.nx s c hs (hx c (by simp))) (fun d hd => hx d (by simp [hd]))
theorem Tab.read_append (M : Tab) (s : Nat) (x y : List Nat) : M.read s (x ++ y) = M.read (M.read s x) y := by simp [Tab.read]
theorem Tab.read_snoc (M : Tab) (s : Nat) (x : List Nat) (c : Nat) : M.read s (x ++ [c]) = M.nxt (M.read s x) c := by simp [Tab.read]
structure Lay where
  (ba oa ca bn on cn : Nat)
  (rb ro rc : Nat → Nat)
structure TabAt (w : World) (V : Lay) (M : Tab) : Prop where
  acc : ∀ i, i < M.n → w.cell? ⟨V.ba, V.oa + i, none⟩ = some (.bool (M.acc i))
  row : ∀ i, i < M.n → w.cell? ⟨V.bn, V.on + i, none⟩ = some (.slice (some ⟨V.rb i, V.ro i, none⟩) 8 (V.rc i))
  cel : ∀ i c, i < M.n → c < 8 → w.cell? ⟨V.rb i, V.ro i + c, none⟩ = some (.int .i64 (M.nxt i c))
theorem TabAt.below {w w' : World} {V : Lay} {M : Tab} (h : TabAt w V M) (hb : Below w.heap.size w w') : TabAt w' V M where
  acc i hi := by rw [(bcell hb).1 _ _ (lt_of_cell (h.acc i hi))]; exact h.acc i hi
  row i hi := by rw [(bcell hb).1 _ _ (lt_of_cell (h.row i hi))]; exact h.row i hi
  cel i c hi hc := by rw [(bcell hb).1 _ _ (lt_of_cell (h.cel i c hi hc))]; exact h.cel i c hi hc
structure Lay.From (V : Lay) (N n : Nat) : Prop where
  a : N ≤ V.ba
  b : N ≤ V.bn
  r : ∀ i, i < n → N ≤ V.rb i
theorem cell_set_other {w : World} {p q : Addr} {u : Value} (h : q.block ≠ p.block) : (w.setCell p u).cell? q = w.cell? q := World.cell?_of_block (Below.heap_setCell w p u q.block h)
theorem TabAt.set {w : World} {V : Lay} {M : Tab} (h : TabAt w V M) {N : Nat} (hV : V.From N M.n) {p : Addr} (hp : p.block < N) (u : Value) : TabAt (w.setCell p u) V M where
  acc i hi := by rw [cell_set_other (by have := hV.a; simp; omega)]; exact h.acc i hi
  row i hi := by rw [cell_set_other (by have := hV.b; simp; omega)]; exact h.row i hi
  cel i c hi hc := by rw [cell_set_other (by have := hV.r i hi; simp; omega)]; exact h.cel i c hi hc
set_option maxRecDepth 20000 in
set_option maxHeartbeats 800000 in
theorem valid_ok (V : Lay) (M : Tab) (w : World) (hM : M.Ok) (h : TabAt w V M) :
    Calls Try.prog 55 #[.agg #[.slice (some ⟨V.ba, V.oa, none⟩) M.n V.ca, .slice (some ⟨V.bn, V.on, none⟩) M.n V.cn]] w
      fun e w' => e = .returned (.bool true) ∧ Below w.heap.size w w' := by
  obtain ⟨h1, h2, hnx⟩ := hM
  generalize hn : M.n = n at *
  have hs : n ≠ 0 := by omega
  have B1 : Below w.heap.size w (w.alloc (.cells #[.slice (some ⟨V.ba, V.oa, none⟩) n V.ca, .slice (some ⟨V.bn, V.on, none⟩) n V.cn] 30)) := (Below.refl _ _).alloc (Nat.le_refl _) _
  have hrow : ∀ i, i < n → (w.alloc (.cells #[.slice (some ⟨V.ba, V.oa, none⟩) n V.ca, .slice (some ⟨V.bn, V.on, none⟩) n V.cn] 30)).cell? ⟨V.bn, V.on + i, none⟩ = some (.slice (some ⟨V.rb i, V.ro i, none⟩) 8 (V.rc i)) :=
    fun i hi => (h.below B1).row i (by omega)
  have hcel : ∀ i, i < n → ∀ c, c < 8 → (w.alloc (.cells #[.slice (some ⟨V.ba, V.oa, none⟩) n V.ca, .slice (some ⟨V.bn, V.on, none⟩) n V.cn] 30)).cell? ⟨V.rb i, V.ro i + c, none⟩ = some (.int .i64 (M.nxt i c)) :=
    fun i hi c hc => (h.below B1).cel i c (by omega) hc
  have hok : ∀ i, i < n → rowOk (fun c => (M.nxt i c : Int)) n 8 = true := by
    intro i hi; rw [rowOk_iff]; intro c hc; have := hnx i c hi hc; omega
  clear h hnx
  go_enter Try.func55, Try.ntmps55
  go_wp2
  go_loop [5, 25] (fun _ i => ∃ k : Nat, k ≤ n ∧ i = .int .i64 k) (fun _ i => n - (intOf i).toNat)
  case atStart => exact ⟨0, by omega, rfl⟩
  case round =>
    obtain ⟨k, hk, rfl⟩ := hrel
    by_cases hlt : k < n
    · have hr := hrow k hlt
      have hcl := hcel k hlt
      have hk8 := hok k hlt
      clear hrow hcel hok
      go_wp2_with (go_at_call 76; refine (validRow_8 _ _ _ (fun c => (M.nxt k c : Int)) _ _ hcl).mono ?_; rw [hk8]; rintro e w' ⟨rfl, rfl⟩)
      go_round
      case rel => exact ⟨k + 1, by omega, by go_num⟩
      case measure => simp [intOf]; omega
    · clear hrow hcel hok
      go_wp2
      go_ret
      exact ⟨rfl, B1⟩
end Go.Proofs.Ytpngikmcjkjdaab

namespace Go.Proofs.Ytpngikmcjkjdaab
open Go.RowKit
set_option linter.unusedVariables false
def notesOf (s : ByteArray) : List Nat := s.data.toList.map fun c => c.toNat - 97
def IsText (s : ByteArray) : Prop := ∀ c ∈ s.data.toList, 97 ≤ c.toNat ∧ c.toNat ≤ 104
theorem notes_of {s : ByteArray} (h : IsText s) : Notes (notesOf s) := by
  intro c hc
  simp only [notesOf, List.mem_map] at hc
  obtain ⟨b, hb, rfl⟩ := hc
  have := h b hb
  omega
theorem notesOf_length (s : ByteArray) : (notesOf s).length = s.size := by simp [notesOf]
theorem isText_at {s : ByteArray} (h : IsText s) (k : Nat) (hk : k < s.size) : 97 ≤ (s[k].toNat : Int) ∧ (s[k].toNat : Int) ≤ 104 := by
  have : s[k] ∈ s.data.toList := by
    rw [Array.mem_toList_iff]; exact Array.getElem_mem (xs := s.data) hk
  have := h _ this
  omega
theorem notesOf_take (s : ByteArray) (k : Nat) (h : k < s.size) : (notesOf s).take (k + 1) = (notesOf s).take k ++ [s[k].toNat - 97] := by
  rw [List.take_succ_eq_append_getElem (by rw [notesOf_length]; exact h)]
  congr 2
  simp [notesOf]; rfl
theorem isText_push (s t : ByteArray) (hs : IsText s) (ht : IsText t) : IsText (s ++ t) := by
  intro c hc
  have : (s ++ t).data = s.data ++ t.data := by simp [ByteArray.data_append]
  rw [this, Array.toList_append, List.mem_append] at hc
  rcases hc with h | h
  · exact hs c h
  · exact ht c h
def noteB (pv : Nat) : UInt8 := UInt8.ofNat (97 + pv)
theorem toNat_note (pv : Nat) (h : pv < 8) : (noteB pv).toNat = 97 + pv := by
  unfold noteB; rw [UInt8.toNat_ofNat']; omega
theorem isText_note (pv : Nat) (h : pv < 8) : IsText ⟨#[noteB pv]⟩ := by
  intro c hc
  simp at hc
  subst hc
  have := toNat_note pv h
  omega
theorem notes_take {x : List Nat} (h : Notes x) (k : Nat) : Notes (x.take k) := fun c hc => h c (List.mem_of_mem_take hc)
set_option maxRecDepth 20000 in
set_option maxHeartbeats 1000000 in
theorem trun_ok (V : Lay) (M : Tab) (s : ByteArray) (w : World) (hM : M.Ok) (h : TabAt w V M) (hs : IsText s) (hl : s.size ≤ 1000) :
    Calls Try.prog 41 #[.agg #[.slice (some ⟨V.ba, V.oa, none⟩) M.n V.ca, .slice (some ⟨V.bn, V.on, none⟩) M.n V.cn], .string s] w
      fun e w' => e = .returned (.tuple #[.bool (M.accepts (notesOf s)), .int .i64 0]) ∧ Below w.heap.size w w' := by
  have hlo := hM.lo
  have hhi := hM.hi
  have B1 : Below w.heap.size w (w.alloc (.cells #[.slice (some ⟨V.ba, V.oa, none⟩) M.n V.ca, .slice (some ⟨V.bn, V.on, none⟩) M.n V.cn] 30)) := (Below.refl _ _).alloc (Nat.le_refl _) _
  have h1 := h.below B1
  go_enter Try.func41, Try.ntmps41
  go_wp2_with fail
  refine (valid_ok V M _ hM h1).mono ?_
  rintro e w1 ⟨rfl, hb1⟩
  have hc0 := (bcell hb1).1 w.heap.size 0 (by simp)
  have hc1 := (bcell hb1).1 w.heap.size 1 (by simp)
  have h2 := h1.below hb1
  have B2 : Below w.heap.size w w1 := B1.trans (hb1.mono (by simp))
  simp at hc0 hc1
  clear h h1 hb1
  go_wp2_with fail
  go_loop [6, 7, 8, 9] (fun st i _ _ => ∃ k : Nat, k ≤ s.size ∧ i = .int .i64 k ∧ st = .int .i64 (M.read 0 ((notesOf s).take k))) (fun _ i _ _ => s.size - (intOf i).toNat)
  case atStart => exact ⟨0, Nat.zero_le _, rfl, rfl⟩
  case round =>
    obtain ⟨k, hk, rfl, rfl⟩ := hrel
    have hst := Tab.read_lt hM 0 (by omega) _ (notes_take (notes_of hs) k)
    by_cases hlt : k < s.size
    · have hch := isText_at hs k hlt
      have HT := notesOf_take s k hlt
      have hc8 : (s[k].toNat - 97 : Nat) < 8 := by omega
      have HS : Hid (((M.read 0 ((notesOf s).take (k + 1)) : Nat) : Int) = (M.nxt (M.read 0 ((notesOf s).take k)) (s[k].toNat - 97) : Nat)) := by
        unfold Hid; rw [HT, Tab.read_snoc]
      generalize M.read 0 ((notesOf s).take k) = q at *
      have hr := h2.row q hst
      have hcl := h2.cel q _ hst hc8
      have e1 : ((s[k].toNat : Int) - 97).toNat = s[k].toNat - 97 := by omega
      clear HT h2
      go_wp2_with (go_at_call 58; refine (number_yes _ _ hch.1 hch.2).mono ?_; rintro e w' ⟨rfl, rfl⟩)
      go_round
      case rel => exact ⟨k + 1, by omega, by go_num, by rw [HS.out]⟩
      case measure => simp [intOf]; omega
    · have e : k = s.size := by omega
      subst e
      rw [List.take_of_length_le (by rw [notesOf_length]; omega)] at hst ⊢
      have HS : Hid (M.accepts (notesOf s) = M.acc (M.read 0 (notesOf s))) := rfl
      generalize M.read 0 (notesOf s) = q at *
      have ha := h2.acc q hst
      go_wp2
      go_ret2
      exact ⟨by rw [HS.out]; rfl, B2⟩
def textTo (s : ByteArray) : Nat → Bool
  | 0 => true
  | k + 1 => textTo s k && (decide (97 ≤ (s.data.toList.getD k 0).toNat) && decide ((s.data.toList.getD k 0).toNat ≤ 104))
theorem textTo_iff (s : ByteArray) (k : Nat) : textTo s k = true ↔ ∀ j, j < k → 97 ≤ (s.data.toList.getD j 0).toNat ∧ (s.data.toList.getD j 0).toNat ≤ 104 := by
  induction k with
  | zero => simp [textTo]
  | succ k ih =>
    simp only [textTo, Bool.and_eq_true, ih, decide_eq_true_eq]
    constructor
    · rintro ⟨h, h1⟩ c hc
      by_cases e : c = k
      · subst e; exact h1
      · exact h c (by omega)
    · intro h
      exact ⟨fun c hc => h c (by omega), h k (by omega)⟩
theorem textTo_mono (s : ByteArray) (k m : Nat) (hk : k ≤ m) (h : textTo s k = false) : textTo s m = false := by
  rw [Bool.eq_false_iff] at h ⊢
  intro hm; apply h; rw [textTo_iff] at hm ⊢; exact fun c hc => hm c (by omega)
theorem getD_byte (s : ByteArray) (k : Nat) (hk : k < s.size) : s.data.toList.getD k 0 = s[k] := by
  rw [List.getD_eq_getElem?_getD, List.getElem?_eq_getElem (by rw [Array.length_toList]; exact hk)]
  rfl
theorem textTo_isText (s : ByteArray) : textTo s s.size = true ↔ IsText s := by
  rw [textTo_iff]
  constructor
  · intro h c hc
    obtain ⟨j, hj, rfl⟩ := List.getElem_of_mem hc
    have := h j (by rw [Array.length_toList] at hj; exact hj)
    rw [List.getD_eq_getElem?_getD, List.getElem?_eq_getElem hj] at this
    exact this
  · intro h j hj
    have hj' : j < s.data.toList.length := by rw [Array.length_toList]; exact hj
    rw [List.getD_eq_getElem?_getD, List.getElem?_eq_getElem hj']
    exact h _ (List.getElem_mem hj')
end Go.Proofs.Ytpngikmcjkjdaab

namespace Go.Proofs.Ytpngikmcjkjdaab
open Go.RowKit
set_option linter.unusedVariables false
set_option linter.unusedSimpArgs false
set_option maxRecDepth 20000 in
set_option maxHeartbeats 800000 in
theorem isTune_ok (s : ByteArray) (w : World) (hs : s.size ≤ maxLen) :
    Calls Try.prog 59 #[.string s] w fun e w' => e = .returned (.bool (decide (s.size ≤ 12) && textTo s s.size)) ∧ w' = w := by
  unfold maxLen at hs
  by_cases hl : s.size ≤ 12
  · have e : (decide (s.size ≤ 12) && textTo s s.size) = textTo s s.size := by simp [hl]
    rw [e]
    clear e
    go_enter Try.func59, Try.ntmps59
    go_wp2_with fail
    go_loop [3] (fun i' => ∃ i : Nat, i ≤ s.size ∧ i' = .int .i64 i ∧ textTo s i = true) (fun i' => s.size - (intOf i').toNat)
    case atStart => exact ⟨0, by omega, rfl, rfl⟩
    case round =>
      obtain ⟨i, hi, rfl, ht⟩ := hrel
      by_cases hlt : i < s.size
      · have hg := getD_byte s i hlt
        have hts : textTo s (i + 1) = (decide (97 ≤ s[i].toNat) && decide (s[i].toNat ≤ 104)) := by simp only [textTo, ht, Bool.true_and, hg]
        by_cases h97 : 97 ≤ s[i].toNat ∧ s[i].toNat ≤ 104
        · have HT : Hid (textTo s (i + 1) = true) := by unfold Hid; rw [hts]; simp [h97.1, h97.2]
          have HC := isNote_yes (s[i].toNat : Int) w (by omega) (by omega)
          clear hts hg ht
          go_wp2_with fail
          refine HC.mono ?_
          rintro e w' ⟨rfl, rfl⟩
          clear HC
          go_wp2_with fail
          go_round
          case rel => exact ⟨i + 1, by omega, by go_num, HT.out⟩
          case measure => simp [intOf]; omega
        · have HT : Hid (textTo s s.size = false) := textTo_mono s (i + 1) _ (by omega) (by rw [hts]; simp; omega)
          have HC := isNote_no (s[i].toNat : Int) w (by omega)
          clear hts hg ht
          go_wp2_with fail
          refine HC.mono ?_
          rintro e w' ⟨rfl, rfl⟩
          clear HC
          go_wp2_with fail
          go_ret
          exact ⟨ret_bool HT.out.symm, rfl⟩
      · have e : i = s.size := by omega
        subst e
        have HT : Hid (textTo s s.size = true) := ht
        clear ht
        go_wp2_with fail
        go_ret
        exact ⟨ret_bool HT.out.symm, rfl⟩
  · have e : (decide (s.size ≤ 12) && textTo s s.size) = false := by simp [hl]
    rw [e]
    clear e
    go_enter Try.func59, Try.ntmps59
    go_wp2_with fail
    go_ret
    exact ⟨rfl, rfl⟩
end Go.Proofs.Ytpngikmcjkjdaab

namespace Go.Proofs.Ytpngikmcjkjdaab
open Go.RowKit
set_option linter.unusedVariables false
structure WideAt (w : World) (gw ga ca gn cn : Nat) (M : Tab) : Prop where
  p0 : w.cell? ⟨gw, 0, none⟩ = some (.slice (some ⟨ga, 0, none⟩) M.n ca)
  p1 : w.cell? ⟨gw, 1, none⟩ = some (.slice (some ⟨gn, 0, none⟩) M.n cn)
  acc : ∀ i, i < M.n → w.cell? ⟨ga, i, none⟩ = some (.bool (M.acc i))
  cel : ∀ i c, i < M.n → c < 8 → w.cell? ⟨gn, i * 8 + c, none⟩ = some (.int .i64 (M.nxt i c))
def NatsAt (w : World) (g n : Nat) (f : Nat → Nat) : Prop := ∀ i, i < n → w.cell? ⟨g, i, none⟩ = some (.int .i64 (f i))
theorem WideAt.below {w w' : World} {gw ga ca gn cn : Nat} {M : Tab} (h : WideAt w gw ga ca gn cn M) (hb : Below w.heap.size w w') : WideAt w' gw ga ca gn cn M where
  p0 := by rw [(bcell hb).1 _ _ (lt_of_cell h.p0)]; exact h.p0
  p1 := by rw [(bcell hb).1 _ _ (lt_of_cell h.p1)]; exact h.p1
  acc i hi := by rw [(bcell hb).1 _ _ (lt_of_cell (h.acc i hi))]; exact h.acc i hi
  cel i c hi hc := by rw [(bcell hb).1 _ _ (lt_of_cell (h.cel i c hi hc))]; exact h.cel i c hi hc
theorem NatsAt.below {w w' : World} {g n : Nat} {f : Nat → Nat} (h : NatsAt w g n f) (hb : Below w.heap.size w w') : NatsAt w' g n f :=
  fun i hi => by rw [(bcell hb).1 _ _ (lt_of_cell (h i hi))]; exact h i hi
theorem NatsAt.set {w : World} {g n : Nat} {f : Nat → Nat} (h : NatsAt w g n f) {p : Addr} (hp : g ≠ p.block) (u : Value) : NatsAt (w.setCell p u) g n f :=
  fun i hi => by rw [cell_set_other hp]; exact h i hi
def alikeTo (M : Tab) (f : Nat → Nat) (i j : Nat) : Nat → Bool
  | 0 => true
  | k + 1 => alikeTo M f i j k && (f (M.nxt i k) == f (M.nxt j k))
def alikeB (M : Tab) (f : Nat → Nat) (i j : Nat) : Bool := (M.acc i == M.acc j) && alikeTo M f i j 8
theorem alikeTo_iff (M : Tab) (f : Nat → Nat) (i j k : Nat) : alikeTo M f i j k = true ↔ ∀ c, c < k → f (M.nxt i c) = f (M.nxt j c) := by
  induction k with
  | zero => simp [alikeTo]
  | succ k ih =>
    simp only [alikeTo, Bool.and_eq_true, ih, beq_iff_eq]
    constructor
    · rintro ⟨h, h1⟩ c hc
      by_cases e : c = k
      · subst e; exact h1
      · exact h c (by omega)
    · intro h
      exact ⟨fun c hc => h c (by omega), h k (by omega)⟩
theorem alikeTo_mono (M : Tab) (f : Nat → Nat) (i j k m : Nat) (hk : k ≤ m) (h : alikeTo M f i j k = false) : alikeTo M f i j m = false := by
  rw [Bool.eq_false_iff] at h ⊢
  intro hm; apply h; rw [alikeTo_iff] at hm ⊢; exact fun c hc => hm c (by omega)
theorem alikeB_iff (M : Tab) (f : Nat → Nat) (i j : Nat) : alikeB M f i j = true ↔ M.acc i = M.acc j ∧ ∀ c, c < 8 → f (M.nxt i c) = f (M.nxt j c) := by
  simp [alikeB, alikeTo_iff]
set_option maxRecDepth 20000 in
set_option maxHeartbeats 1000000 in
theorem alike_ok (gw ga ca gn cn go co gh l ch : Nat) (ho : Option Addr) (M : Tab) (f : Nat → Nat) (i j : Nat) (w : World) (hM : WideAt w gw ga ca gn cn M) (hf : NatsAt w go M.n f)
    (hi : i < M.n) (hj : j < M.n) (hn : M.n ≤ 100000000) (hnx : ∀ i c, i < M.n → c < 8 → M.nxt i c < M.n) :
    Calls Try.prog 101 #[.pointer (some ⟨gw, 0, none⟩), .agg #[.slice (some ⟨go, 0, none⟩) M.n co, .slice ho l ch], .int .i64 i, .int .i64 j] w
      fun e w' => e = .returned (.bool (alikeB M f i j)) ∧ Below w.heap.size w w' := by
  have B2 : Below w.heap.size w (w.alloc (.cells #[.slice (some ⟨go, 0, none⟩) M.n co, .slice ho l ch] 149)) :=
    (Below.refl _ _).alloc (Nat.le_refl _) _
  have hM2 := hM.below B2
  have hf2 := hf.below B2
  have p0 := hM2.p0
  have p1 := hM2.p1
  have hai := hM2.acc i hi
  have haj := hM2.acc j hj
  clear hM hf
  by_cases hacc : M.acc i = M.acc j
  · have hb : (M.acc i != M.acc j) = false := by simp [hacc]
    rw [show alikeB M f i j = alikeTo M f i j 8 by simp [alikeB, hacc]]
    rw [hacc] at hai hb
    clear hacc
    go_enter Try.func101, Try.ntmps101
    go_wp2
    go_quiet (fail)
    go_wp2
    go_loopw [9] (fun k' wr => ∃ k : Nat, ∃ q : Nat, k ≤ 8 ∧ k' = .int .i64 k ∧ alikeTo M f i j k = true ∧
        wr = (w.alloc (.cells #[.slice (some ⟨go, 0, none⟩) M.n co, .slice ho l ch] 149)).drewN q)
      (fun k' _ => 8 - (intOf k').toNat)
    case atStart => exact ⟨0, _, by omega, rfl, rfl, rfl⟩
    case round =>
      obtain ⟨k, q, hk, rfl, hal, rfl⟩ := hrel
      clear hai haj hb
      by_cases hlt : k < 8
      · have c1 := hM2.cel i k hi hlt
        have c2 := hM2.cel j k hj hlt
        have n1 := hnx i k hi hlt
        have n2 := hnx j k hj hlt
        have d1 := hf2 _ n1
        have d2 := hf2 _ n2
        by_cases hne : f (M.nxt i k) = f (M.nxt j k)
        · have HA : Hid (alikeTo M f i j (k + 1) = true) := by simp [Hid, alikeTo, hal, hne]
          have hbn : (((f (M.nxt j k) : Nat) : Int) != ((f (M.nxt j k) : Nat) : Int)) = false := by simp
          rw [hne] at d1
          clear hal hM2 hf2 hnx hne
          go_wp2_with fail
          go_quiet (fail)
          go_wp2
          go_roundw
          case rel => exact ⟨k + 1, _, by omega, by go_num, HA.out, rfl⟩
          case measure => simp [intOf]; omega
        · have HA : Hid (alikeTo M f i j 8 = false) := alikeTo_mono M f i j (k + 1) 8 (by omega) (by simp [alikeTo, hne])
          have hbn : (((f (M.nxt i k) : Nat) : Int) == ((f (M.nxt j k) : Nat) : Int)) = false := by simp; omega
          clear hal hM2 hf2 hnx hne
          go_wp2_with fail
          go_quiet (fail)
          go_wp2
          go_ret
          exact ⟨ret_bool HA.out.symm, below_drewN (below_drewN B2 _) _⟩
      · have e : k = 8 := by omega
        subst e
        have HA : Hid (alikeTo M f i j 8 = true) := hal
        clear hal hM2 hf2 hnx
        go_wp2
        go_ret
        exact ⟨ret_bool HA.out.symm, below_drewN B2 _⟩
  · have hb : (M.acc i == M.acc j) = false := by simp [hacc]
    rw [show alikeB M f i j = false by simp [alikeB, hacc]]
    clear hacc
    go_enter Try.func101, Try.ntmps101
    go_wp2
    go_quiet (fail)
    go_wp2
    go_ret
    exact ⟨rfl, below_drewN B2 _⟩
end Go.Proofs.Ytpngikmcjkjdaab

namespace Go.Proofs.Ytpngikmcjkjdaab
open Go.RowKit
set_option linter.unusedVariables false
set_option maxRecDepth 20000 in
set_option maxHeartbeats 1000000 in
theorem find_ok (gw ga ca gn cn go co l0 c0 gh l ch : Nat) (h0 ho : Option Addr) (M : Tab) (f hd : Nat → Nat) (i : Nat) (w : World) (hM : WideAt w gw ga ca gn cn M) (hf : NatsAt w go M.n f)
    (hho : 0 < l → ho = some ⟨gh, 0, none⟩) (hh : NatsAt w gh l hd) (hl : l ≤ 100000000) (hhd : ∀ c, c < l → hd c < M.n)
    (hi : i < M.n) (hn : M.n ≤ 100000000) (hnx : ∀ i c, i < M.n → c < 8 → M.nxt i c < M.n) :
    Calls Try.prog 97 #[.pointer (some ⟨gw, 0, none⟩), .agg #[.slice (some ⟨go, 0, none⟩) M.n co, .slice h0 l0 c0], .slice ho l ch, .int .i64 i] w
      fun e w' => (∃ r : Nat, r ≤ l ∧ (∀ c, c < r → alikeB M f (hd c) i = false) ∧ (r < l → alikeB M f (hd r) i = true) ∧ e = .returned (.int .i64 r)) ∧ Below w.heap.size w w' := by
  have B2 : Below w.heap.size w (w.alloc (.cells #[.slice (some ⟨go, 0, none⟩) M.n co, .slice h0 l0 c0] 149)) :=
    (Below.refl _ _).alloc (Nat.le_refl _) _
  go_enter Try.func97, Try.ntmps97
  go_wp2
  go_loopw [9, 10, 13] (fun _ _ k' wr => ∃ k : Nat, k ≤ l ∧ k' = .int .i64 k ∧ (∀ c, c < k → alikeB M f (hd c) i = false) ∧
        Below (w.heap.size + 1) (w.alloc (.cells #[.slice (some ⟨go, 0, none⟩) M.n co, .slice h0 l0 c0] 149)) wr)
      (fun _ _ k' _ => l - (intOf k').toNat)
  case atStart => exact ⟨0, by omega, rfl, by intro c hc; omega, Below.refl _ _⟩
  case round =>
    obtain ⟨k, hk, rfl, hal, hb⟩ := hrel
    have hbw : Below w.heap.size w wr := B2.trans (hb.mono (by omega))
    have y0 := hb.cell (p := ⟨w.heap.size, 0, none⟩) (by simp)
    have y1 := hb.cell (p := ⟨w.heap.size, 1, none⟩) (by simp)
    simp at y0 y1
    by_cases hlt : k < l
    · obtain rfl := hho (by omega)
      have hk2 := hh.below hbw k hlt
      have hdk := hhd k hlt
      have HC := alike_ok gw ga ca gn cn go co 0 l0 c0 h0 M f (hd k) i wr (hM.below hbw) (hf.below hbw) hdk hi hn hnx
      have HR : Hid (∀ c, c < k → alikeB M f (hd c) i = false) := hal
      have HB : Hid (Below (w.heap.size + 1) (w.alloc (.cells #[.slice (some ⟨go, 0, none⟩) M.n co, .slice h0 l0 c0] 149)) wr) := hb
      have hbs : w.heap.size + 1 ≤ wr.heap.size := by have := hb.size; simp at this; omega
      clear hal hb hh hhd hf hM hnx hho
      cases hv : alikeB M f (hd k) i
      · rw [hv] at HC
        have HV : Hid (alikeB M f (hd k) i = false) := hv
        clear hv
        go_wp2_with (go_at_call 101; refine HC.mono ?_; rintro e w' ⟨rfl, hb'⟩)
        go_roundw
        case rel =>
          refine ⟨k + 1, by omega, by go_num, ?_, HB.out.trans (hb'.mono hbs)⟩
          intro c hc
          by_cases e : c = k
          · subst e; exact HV.out
          · exact HR.out c (by omega)
        case measure => simp [intOf]; omega
      · rw [hv] at HC
        have HV : Hid (alikeB M f (hd k) i = true) := hv
        clear hv
        go_wp2_with (go_at_call 101; refine HC.mono ?_; rintro e w' ⟨rfl, hb'⟩)
        go_ret
        exact ⟨⟨k, by omega, HR.out, fun _ => HV.out, rfl⟩, hbw.trans (hb'.mono (by omega))⟩
    · have e : k = l := by omega
      subst e
      have HR : Hid (∀ c, c < k → alikeB M f (hd c) i = false) := hal
      clear hal hb hh hhd hf hM hnx hho
      go_wp2
      go_ret
      exact ⟨⟨k, by omega, HR.out, fun h => absurd h (by omega), rfl⟩, hbw⟩
end Go.Proofs.Ytpngikmcjkjdaab

namespace Go.Proofs.Ytpngikmcjkjdaab
set_option linter.unusedVariables false
structure Cls (n : Nat) (f : Nat → Nat) (hs : List Nat) : Prop where
  lt : ∀ i, i < n → f i < hs.length
  le : ∀ i, i < n → hs.getD (f i) 0 ≤ i
  hd : ∀ c, c < hs.length → hs.getD c 0 < n ∧ f (hs.getD c 0) = c
  inc : hs.Pairwise (· < ·)
theorem alikeB_refl (M : Tab) (f : Nat → Nat) (i : Nat) : alikeB M f i i = true := by rw [alikeB_iff]; exact ⟨rfl, fun _ _ => rfl⟩
theorem alikeB_symm {M : Tab} {f : Nat → Nat} {i j : Nat} (h : alikeB M f i j = true) : alikeB M f j i = true := by
  rw [alikeB_iff] at h ⊢; exact ⟨h.1.symm, fun c hc => (h.2 c hc).symm⟩
theorem alikeB_trans {M : Tab} {f : Nat → Nat} {i j k : Nat} (h : alikeB M f i j = true) (h' : alikeB M f j k = true) : alikeB M f i k = true := by
  rw [alikeB_iff] at h h' ⊢; exact ⟨h.1.trans h'.1, fun c hc => (h.2 c hc).trans (h'.2 c hc)⟩
structure SplitRel (M : Tab) (f : Nat → Nat) (s : Nat) (os hs : List Nat) : Prop where
  len : os.length = s
  cls : Cls s (fun i => os.getD i 0) hs
  yes : ∀ i, i < s → alikeB M f (hs.getD (os.getD i 0) 0) i = true
  no : ∀ i c, i < s → c < os.getD i 0 → alikeB M f (hs.getD c 0) i = false
theorem SplitRel.nil (M : Tab) (f : Nat → Nat) : SplitRel M f 0 [] [] := by
  refine ⟨rfl, ⟨?_, ?_, ?_, by simp⟩, ?_, ?_⟩ <;> intros <;> first | omega | simp_all
theorem getD_snoc_lt (l : List Nat) (x i : Nat) (h : i < l.length) : (l ++ [x]).getD i 0 = l.getD i 0 := by
  simp [List.getD_eq_getElem?_getD, List.getElem?_append_left h]
theorem getD_snoc_eq (l : List Nat) (x : Nat) : (l ++ [x]).getD l.length 0 = x := by
  simp [List.getD_eq_getElem?_getD]
theorem SplitRel.old {M : Tab} {f : Nat → Nat} {s : Nat} {os hs : List Nat} (h : SplitRel M f s os hs) (r : Nat) (hr : r < hs.length) (hy : alikeB M f (hs.getD r 0) s = true) (hn : ∀ c, c < r → alikeB M f (hs.getD c 0) s = false) :
    SplitRel M f (s + 1) (os ++ [r]) hs := by
  have hl := h.len
  have e1 : ∀ i, i < s → (os ++ [r]).getD i 0 = os.getD i 0 := fun i hi => getD_snoc_lt os r i (by omega)
  have e2 : (os ++ [r]).getD s 0 = r := by rw [← hl]; exact getD_snoc_eq os r
  refine ⟨by simp [hl], ⟨?_, ?_, ?_, h.cls.inc⟩, ?_, ?_⟩
  · intro i hi
    show (os ++ [r]).getD i 0 < _
    by_cases e : i = s
    · subst e; rw [e2]; exact hr
    · rw [e1 i (by omega)]; exact h.cls.lt i (by omega)
  · intro i hi
    show hs.getD ((os ++ [r]).getD i 0) 0 ≤ i
    by_cases e : i = s
    · subst e; rw [e2]; have := (h.cls.hd r hr).1; omega
    · rw [e1 i (by omega)]; exact h.cls.le i (by omega)
  · intro c hc
    have := h.cls.hd c hc
    refine ⟨by omega, ?_⟩
    show (os ++ [r]).getD (hs.getD c 0) 0 = c
    rw [e1 _ this.1]; exact this.2
  · intro i hi
    by_cases e : i = s
    · subst e; rw [e2]; exact hy
    · rw [e1 i (by omega)]; exact h.yes i (by omega)
  · intro i c hi hc
    by_cases e : i = s
    · subst e; rw [e2] at hc; exact hn c hc
    · rw [e1 i (by omega)] at hc; exact h.no i c (by omega) hc
theorem SplitRel.new {M : Tab} {f : Nat → Nat} {s : Nat} {os hs : List Nat} (h : SplitRel M f s os hs) (hn : ∀ c, c < hs.length → alikeB M f (hs.getD c 0) s = false) :
    SplitRel M f (s + 1) (os ++ [hs.length]) (hs ++ [s]) := by
  have hl := h.len
  have e1 : ∀ i, i < s → (os ++ [hs.length]).getD i 0 = os.getD i 0 := fun i hi => getD_snoc_lt os _ i (by omega)
  have e2 : (os ++ [hs.length]).getD s 0 = hs.length := by rw [← hl]; exact getD_snoc_eq os _
  have e3 : ∀ c, c < hs.length → (hs ++ [s]).getD c 0 = hs.getD c 0 := fun c hc => getD_snoc_lt hs s c hc
  have e4 : (hs ++ [s]).getD hs.length 0 = s := getD_snoc_eq hs s
  refine ⟨by simp [hl], ⟨?_, ?_, ?_, ?_⟩, ?_, ?_⟩
  · intro i hi
    show (os ++ [hs.length]).getD i 0 < _
    by_cases e : i = s
    · subst e; rw [e2]; simp
    · rw [e1 i (by omega), List.length_append]; have : os.getD i 0 < hs.length := h.cls.lt i (by omega); simp only [List.length_singleton]; omega
  · intro i hi
    show (hs ++ [s]).getD ((os ++ [hs.length]).getD i 0) 0 ≤ i
    by_cases e : i = s
    · subst e; rw [e2, e4]; exact Nat.le_refl _
    · rw [e1 i (by omega), e3 _ (h.cls.lt i (by omega))]; exact h.cls.le i (by omega)
  · intro c hc
    by_cases e : c = hs.length
    · subst e; rw [e4]; exact ⟨by omega, e2⟩
    · have hc' : c < hs.length := by simp at hc; omega
      have := h.cls.hd c hc'
      rw [e3 c hc']
      exact ⟨by omega, (e1 _ this.1).trans this.2⟩
  · rw [List.pairwise_append]
    refine ⟨h.cls.inc, by simp, ?_⟩
    intro a ha b hb
    simp at hb
    subst hb
    obtain ⟨c, hc, rfl⟩ := List.getElem_of_mem ha
    have := (h.cls.hd c hc).1
    rw [List.getD_eq_getElem?_getD, List.getElem?_eq_getElem hc] at this
    exact this
  · intro i hi
    by_cases e : i = s
    · subst e; rw [e2, e4]; exact alikeB_refl M f i
    · rw [e1 i (by omega), e3 _ (h.cls.lt i (by omega))]; exact h.yes i (by omega)
  · intro i c hi hc
    by_cases e : i = s
    · subst e; rw [e2] at hc; rw [e3 c hc]; exact hn c hc
    · rw [e1 i (by omega)] at hc; rw [e3 c (by have := h.cls.lt i (by omega); omega)]; exact h.no i c (by omega) hc
theorem SplitRel.same {M : Tab} {f : Nat → Nat} {s : Nat} {os hs : List Nat} (h : SplitRel M f s os hs) (i j : Nat) (hi : i < s) (hj : j < s) : os.getD i 0 = os.getD j 0 ↔ alikeB M f i j = true := by
  constructor
  · intro e
    have h1 := h.yes i hi
    have h2 := h.yes j hj
    rw [e] at h1
    exact alikeB_trans (alikeB_symm h1) h2
  · intro e
    rcases Nat.lt_trichotomy (os.getD i 0) (os.getD j 0) with hlt | heq | hgt
    · have := h.no j _ hj hlt
      rw [alikeB_trans (h.yes i hi) e] at this; cases this
    · exact heq
    · have := h.no i _ hi hgt
      rw [alikeB_trans (h.yes j hj) (alikeB_symm e)] at this; cases this
theorem SplitRel.heads {M : Tab} {f : Nat → Nat} {s : Nat} {os hs : List Nat} (h : SplitRel M f s os hs) (c d : Nat) (hcd : c < d) (hd : d < hs.length) : alikeB M f (hs.getD c 0) (hs.getD d 0) = false := by
  have := h.cls.hd d hd
  exact h.no _ c this.1 (by rw [this.2]; exact hcd)
end Go.Proofs.Ytpngikmcjkjdaab

namespace Go.Proofs.Ytpngikmcjkjdaab
open Go.RowKit
set_option linter.unusedVariables false
theorem run_append_fresh {P : Program} (w : World) (base : Nat) (t ty e : TypeId) (i : TypeInfo) (z : Value) (size bytes : Nat) (ht : P.underlying t = some (.slice e)) (hi : P.info? e = some i) (hz : i.zero = some z)
    (hsize : i.size = size) (hby : i.bytes = bytes) (hzs : z.cells.size = size) (hsz : 0 < size)
    (v : Value) (n : Nat) (xs : List Value) (hown : w.ownsRow base e size v n xs)
    (a : Addr) (m c : Nat) (news : List Value) (hl : news.length = m * size) (hnews : ∀ j u, news[j]? = some u → w.cell? (a.add j) = some u) (h1 : ∀ u ∈ news, u.oneCell' = true) (hm : 0 < m)
    (h63 : n + m ≤ maxLen) (hbytes : (n + m) * bytes ≤ 140737488355328) (hbase : base ≤ w.heap.size) :
    ∃ g cap w', (Builtin.append_ #[t, t] ty #[v, .slice (some a) m c]).run P w = .ok (.slice (some ⟨g, 0, none⟩) (n + m) cap) w' ∧ w'.ownsRow base e size (.slice (some ⟨g, 0, none⟩) (n + m) cap) (n + m) (xs ++ news) ∧
      w.grownBy w' v.ownBlock ∧ (v.ownBlock = some g ∨ g = w.heap.size) := by
  obtain ⟨v', w', hr, h2, h3, h4⟩ := run_append_own (P := P) w base t ty e i z size bytes ht hi hz hsize hby hzs hsz v n xs hown a m c news hl hnews h1 h63 hbytes hbase
  subst hsize
  subst hby
  have hsmall : n + m ≤ 9223372036854775807 := by simp only [maxLen] at h63; omega
  rcases hown.2 with ⟨rfl, rfl⟩ | ⟨g, cap, cur, rfl, hbg, hg, hnc, hcm, hcs, htake⟩
  · have hr2 := run_append_nil (P := P) w t ty e i z ht hi hz a m c news hl hnews hm (by omega) (by have hb := hbytes; simp only [Nat.zero_add] at hb; omega)
    rw [hr] at hr2
    injection hr2 with e1 e2
    rw [show m = 0 + m by omega] at e1
    subst e1
    exact ⟨_, _, w', hr, h2, h3, .inr rfl⟩
  · by_cases hroom : n + m ≤ cap
    · have hfit : n * i.size + news.length ≤ cur.size := by rw [hl, hcs, ← Nat.add_mul]; exact Nat.mul_le_mul_right _ hroom
      have hr2 := run_append_room (P := P) w t ty e i ht hi g n cap cur hg a m c news hl hnews h1 hroom hfit
      rw [hr] at hr2
      injection hr2 with e1 e2
      subst e1
      exact ⟨_, _, w', hr, h2, h3, .inl rfl⟩
    · have holds : ∀ j u, xs[j]? = some u → w.cell? ((⟨g, 0, none⟩ : Addr).add j) = some u := hown.cells (g := g) rfl
      have hr2 := run_append_grow (P := P) w t ty e i z ht hi hz ⟨g, 0, none⟩ n cap xs hown.1 holds a m c news hl hnews (by omega) (by omega) (growslice_fits (by omega) hbytes)
      rw [hr] at hr2
      injection hr2 with e1 e2
      subst e1
      exact ⟨_, _, w', hr, h2, h3, .inr rfl⟩
theorem wpList_append_fresh {P : Program} (w : World) {ops : Array Oper} {rest : List Oper} {o : Oper} {a : Act} {Q : Exit → Act → World → Prop} (hgd : o.guard = none) (s x : Operand) (t : TypeId)
    (ho : o.op = .call { callee := .builtin .append, args := #[s, x], argTypes := #[t, t] })
    (base : Nat) (e : TypeId) (i : TypeInfo) (z : Value) (size bytes : Nat) (ht : P.underlying t = some (.slice e)) (hi : P.info? e = some i) (hz : i.zero = some z)
    (hsize : i.size = size) (hby : i.bytes = bytes) (hzs : z.cells.size = size) (hsz : 0 < size)
    (v : Value) (n : Nat) (xs : List Value) (hs : a.eval s = v) (hown : w.ownsRow base e size v n xs)
    (ad : Addr) (m c : Nat) (news : List Value) (hx : a.eval x = .slice (some ad) m c) (hl : news.length = m * size) (hnews : ∀ j u, news[j]? = some u → w.cell? (ad.add j) = some u) (h1 : ∀ u ∈ news, u.oneCell' = true) (hm : 0 < m)
    (h63 : n + m ≤ maxLen) (hbytes : (n + m) * bytes ≤ 140737488355328) (hbase : base ≤ w.heap.size)
    (h : ∀ g cap w', w'.ownsRow base e size (.slice (some ⟨g, 0, none⟩) (n + m) cap) (n + m) (xs ++ news) → w.grownBy w' v.ownBlock → (v.ownBlock = some g ∨ g = w.heap.size) →
      wpList P ops Q rest (a.put o.dst (.slice (some ⟨g, 0, none⟩) (n + m) cap)) w') : wpList P ops Q (o :: rest) a w := by
  refine wpList_plain hgd fun K hK => ?_
  obtain ⟨g, cap, w', hr, h2, h3, h4⟩ := run_append_fresh (P := P) w base t o.type e i z size bytes ht hi hz hsize hby hzs hsz v n xs hown ad m c news hl hnews h1 hm h63 hbytes hbase
  unfold Oper.wp execOp
  simp only [ho, resolve, invoke, builtin, Sem.run_bind, Sem.run_pure, Result.andThen_ok, List.map_toArray, List.map_cons, List.map_nil, hs, hx, hr]
  exact hK _ _ (h g cap w' h2 h3 h4)
end Go.Proofs.Ytpngikmcjkjdaab

namespace Go.Proofs.Ytpngikmcjkjdaab
open Go.RowKit
set_option linter.unusedVariables false
theorem cell_two {w : World} {b : Nat} {x y : Value} {t : TypeId} (h : w.heap[b]? = some (.cells #[x, y] t (0, 0))) : w.cell? ⟨b, 0, none⟩ = some x ∧ w.cell? ⟨b, 1, none⟩ = some y ∧ w.frozen? ⟨b, 0, none⟩ = false ∧ w.frozen? ⟨b, 1, none⟩ = false := by
  simp [World.cell?, World.frozen?, h]
theorem two_set0 {w : World} {b : Nat} {x y u : Value} {t : TypeId} (h : w.heap[b]? = some (.cells #[x, y] t (0, 0))) : (w.setCell ⟨b, 0, none⟩ u).heap[b]? = some (.cells #[u, y] t (0, 0)) := by
  simp [World.setCell, Array.getElem?_modify, h]
theorem two_set1 {w : World} {b : Nat} {x y u : Value} {t : TypeId} (h : w.heap[b]? = some (.cells #[x, y] t (0, 0))) : (w.setCell ⟨b, 1, none⟩ u).heap[b]? = some (.cells #[x, u] t (0, 0)) := by
  simp [World.setCell, Array.getElem?_modify, h]
theorem res_two {w : World} {b : Nat} {x y u v : Value} {t : TypeId} (h : w.heap[b]? = some (.cells #[x, y] t (0, 0))) :
    (w.setCell ⟨b, 0, none⟩ u).cell? ⟨b, 0, none⟩ = some u ∧ ((w.setCell ⟨b, 0, none⟩ u).setCell ⟨b, 1, none⟩ v).cell? ⟨b, 1, none⟩ = some v ∧ ((w.setCell ⟨b, 0, none⟩ u).setCell ⟨b, 1, none⟩ v).cell? ⟨b, 0, none⟩ = some u :=
  ⟨(cell_two (two_set0 h)).1, (cell_two (two_set1 (two_set0 h))).2.1, (cell_two (two_set1 (two_set0 h))).1⟩
theorem heap_set_other {w : World} {a : Addr} {u : Value} {k : Nat} {o : Obj} (h : w.heap[k]? = some o) (hne : k ≠ a.block) : (w.setCell a u).heap[k]? = some o := by
  rw [Below.heap_setCell w a u k hne]; exact h
theorem heap_lt {w : World} {b : Nat} {o : Obj} (h : w.heap[b]? = some o) : b < w.heap.size := (Array.getElem?_eq_some_iff.1 h).1
structure TwoRows (W : World) (b : Nat) (t e0 s0 e1 s1 : Nat) (w : World) (v0 v1 : Value) (n0 n1 : Nat) (x0 x1 : List Value) : Prop where
  blw : Below b W w
  blk : w.heap[b]? = some (.cells #[v0, v1] t (0, 0))
  own0 : w.ownsRow (b + 1) e0 s0 v0 n0 x0
  own1 : w.ownsRow (b + 1) e1 s1 v1 n1 x1
  dis : ∀ g, v0.ownBlock = some g → v1.ownBlock = some g → False
variable {W : World} {b t e0 s0 e1 s1 : Nat} {w w1 w2 : World} {v0 v1 : Value} {n0 n1 : Nat} {x0 x1 : List Value}
theorem ownsRow_below {base e size n : Nat} {v : Value} {xs : List Value} (h : w.ownsRow base e size v n xs) (hb : Below w.heap.size w w1) : w1.ownsRow base e size v n xs :=
  h.kept (row := none) ⟨hb.os, hb.tape, hb.output, hb.size, fun k hk _ => hb.block k hk⟩ (by cases hv : v.ownBlock <;> simp)
theorem TwoRows.below (h : TwoRows W b t e0 s0 e1 s1 w v0 v1 n0 n1 x0 x1) (hb : Below w.heap.size w w1) : TwoRows W b t e0 s0 e1 s1 w1 v0 v1 n0 n1 x0 x1 where
  blw := h.blw.trans (hb.mono (by have := heap_lt h.blk; omega))
  blk := by rw [hb.block b (heap_lt h.blk)]; exact h.blk
  own0 := ownsRow_below h.own0 hb
  own1 := ownsRow_below h.own1 hb
  dis := h.dis
theorem TwoRows.grown0 (h : TwoRows W b t e0 s0 e1 s1 w v0 v1 n0 n1 x0 x1) (hg : w.grownBy w2 v0.ownBlock) : w2.heap[b]? = some (.cells #[v0, v1] t (0, 0)) := by
  rw [hg.block b (heap_lt h.blk) (fun e => by have := (h.own0.lt b e.symm).1; omega)]; exact h.blk
theorem TwoRows.grown1 (h : TwoRows W b t e0 s0 e1 s1 w v0 v1 n0 n1 x0 x1) (hg : w.grownBy w2 v1.ownBlock) : w2.heap[b]? = some (.cells #[v0, v1] t (0, 0)) := by
  rw [hg.block b (heap_lt h.blk) (fun e => by have := (h.own1.lt b e.symm).1; omega)]; exact h.blk
theorem TwoRows.put0 (h : TwoRows W b t e0 s0 e1 s1 w v0 v1 n0 n1 x0 x1) {g cap m : Nat} {ys : List Value} (hown : w2.ownsRow (b + 1) e0 s0 (.slice (some ⟨g, 0, none⟩) m cap) m ys) (hg : w.grownBy w2 v0.ownBlock)
    (hf : v0.ownBlock = some g ∨ g = w.heap.size) : TwoRows W b t e0 s0 e1 s1 (w2.setCell ⟨b, 0, none⟩ (.slice (some ⟨g, 0, none⟩) m cap)) (.slice (some ⟨g, 0, none⟩) m cap) v1 m n1 ys x1 where
  blw := by
    have hb1 := heap_lt h.blk
    exact (h.blw.grown hg (by omega) (fun k e => by have := (h.own0.lt k e).1; omega)).setCell (Nat.le_refl _) _
  blk := two_set0 (h.grown0 hg)
  own0 := ownsRow_setCell_below hown (by simp) _
  own1 := ownsRow_setCell_below (h.own1.kept hg (by
    cases hv : v1.ownBlock with
    | none => exact .inl rfl
    | some k => exact .inr (fun e => h.dis k e.symm hv))) (by simp) _
  dis := by
    intro k hk hk1
    simp only [Value.ownBlock, Option.some.injEq] at hk
    subst hk
    rcases hf with hf | rfl
    · exact h.dis _ hf hk1
    · have := (h.own1.lt _ hk1).2; omega
theorem TwoRows.put1 (h : TwoRows W b t e0 s0 e1 s1 w v0 v1 n0 n1 x0 x1) {g cap m : Nat} {ys : List Value} (hown : w2.ownsRow (b + 1) e1 s1 (.slice (some ⟨g, 0, none⟩) m cap) m ys) (hg : w.grownBy w2 v1.ownBlock)
    (hf : v1.ownBlock = some g ∨ g = w.heap.size) : TwoRows W b t e0 s0 e1 s1 (w2.setCell ⟨b, 1, none⟩ (.slice (some ⟨g, 0, none⟩) m cap)) v0 (.slice (some ⟨g, 0, none⟩) m cap) n0 m x0 ys where
  blw := by
    have hb1 := heap_lt h.blk
    exact (h.blw.grown hg (by omega) (fun k e => by have := (h.own1.lt k e).1; omega)).setCell (Nat.le_refl _) _
  blk := two_set1 (h.grown1 hg)
  own1 := ownsRow_setCell_below hown (by simp) _
  own0 := ownsRow_setCell_below (h.own0.kept hg (by
    cases hv : v0.ownBlock with
    | none => exact .inl rfl
    | some k => exact .inr (fun e => h.dis k hv e.symm))) (by simp) _
  dis := by
    intro k hk1 hk
    simp only [Value.ownBlock, Option.some.injEq] at hk
    subst hk
    rcases hf with hf | rfl
    · exact h.dis _ hk1 hf
    · have := (h.own0.lt _ hk1).2; omega
theorem ownsRow_shape {base e size n : Nat} {v : Value} {xs : List Value} (h : w.ownsRow base e size v n xs) : ∃ ao cap, v = .slice ao n cap ∧ (0 < n → ∃ g, ao = some ⟨g, 0, none⟩ ∧ ∀ j, j < n * size → w.cell? ⟨g, j, none⟩ = xs[j]?) := by
  rcases h.2 with ⟨rfl, rfl⟩ | ⟨g, cap, cur, rfl, r⟩
  · exact ⟨none, 0, rfl, fun h => absurd h (by omega)⟩
  · exact ⟨some ⟨g, 0, none⟩, cap, rfl, fun _ => ⟨g, rfl, fun j hj => h.cellAt j hj⟩⟩
end Go.Proofs.Ytpngikmcjkjdaab
