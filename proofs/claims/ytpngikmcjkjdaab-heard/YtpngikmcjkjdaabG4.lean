import Derived.Deep.DeepCutAuto
import Derived.Deep.RegionHeld3
import Derived.Deep.Upon
import Derived.Test.YtpngikmcjkjdaabG1
import Derived.Test.YtpngikmcjkjdaabG2
import Derived.Test.YtpngikmcjkjdaabG3
set_option linter.unusedVariables false
set_option linter.unusedSimpArgs false
namespace Go.Proofs.Ytpngikmcjkjdaab
set_option linter.unusedVariables false
def dg (q i : Nat) : Nat := q / 4 ^ i % 4
def enc (f : Nat → Nat) : Nat → Nat
  | 0 => 0
  | k + 1 => enc f k + f k * 4 ^ k
theorem enc_lt {f : Nat → Nat} {k : Nat} (h : ∀ i, i < k → f i < 4) : enc f k < 4 ^ k := by
  induction k with
  | zero => simp [enc]
  | succ k ih =>
    have h1 := ih (fun i hi => h i (by omega))
    have h2 : f k * 4 ^ k ≤ 3 * 4 ^ k := Nat.mul_le_mul_right _ (by have := h k (by omega); omega)
    have h3 : 4 ^ (k + 1) = 4 * 4 ^ k := by rw [Nat.pow_succ, Nat.mul_comm]
    simp only [enc]
    omega
theorem dg_enc {f : Nat → Nat} {k i : Nat} (h : ∀ i, i < k → f i < 4) (hi : i < k) : dg (enc f k) i = f i := by
  induction k with
  | zero => omega
  | succ k ih =>
    have h1 := enc_lt (k := k) (fun i hi => h i (by omega))
    simp only [enc, dg]
    by_cases e : i = k
    · subst e
      rw [Nat.add_mul_div_right _ _ (Nat.pow_pos (by omega)), Nat.div_eq_of_lt h1, Nat.zero_add, Nat.mod_eq_of_lt (h i (by omega))]
    · have h2 := ih (fun i hi => h i (by omega)) (by omega)
      unfold dg at h2
      have h3 : 4 ^ k = 4 ^ (k - i - 1) * 4 * 4 ^ i := by
        rw [← Nat.pow_succ, ← Nat.pow_add]; congr 1; omega
      rw [h3, show f k * (4 ^ (k - i - 1) * 4 * 4 ^ i) = (f k * 4 ^ (k - i - 1) * 4) * 4 ^ i by simp [Nat.mul_assoc], Nat.add_mul_div_right _ _ (Nat.pow_pos (by omega)), Nat.add_mul_mod_self_right]
      exact h2
theorem dg_lt (q i : Nat) : dg q i < 4 := Nat.mod_lt _ (by omega)
theorem enc_congr {f g : Nat → Nat} {k : Nat} (h : ∀ i, i < k → f i = g i) : enc f k = enc g k := by
  induction k with
  | zero => rfl
  | succ k ih => simp only [enc]; rw [ih (fun i hi => h i (by omega)), h k (by omega)]
theorem enc_dg {q k : Nat} (h : q < 4 ^ k) : enc (dg q) k = q := by
  have key : ∀ k, enc (dg q) k = q % 4 ^ k := by
    intro k
    induction k with
    | zero => simp [enc, Nat.mod_one]
    | succ k ih =>
      simp only [enc, ih, dg]
      rw [Nat.pow_succ, Nat.mod_mul, Nat.mul_comm (4 ^ k)]
  rw [key, Nat.mod_eq_of_lt h]
def sw (b x : Nat) : Nat := if x = b then 0 else if x = 0 then b else x
theorem sw_sw (b x : Nat) : sw b (sw b x) = x := by
  unfold sw
  by_cases h1 : x = b
  · subst h1; by_cases h2 : x = 0
    · simp [h2]
    · simp [Ne.symm h2]
  · by_cases h2 : x = 0
    · subst h2; simp [h1]
    · simp [h1, h2]
theorem sw_lt {b x n : Nat} (hb : b < n) (hx : x < n) : sw b x < n := by unfold sw; split <;> (try split) <;> omega
def nBegin (most i : Nat) : Nat := min i (most + 1)
def nHear (t : Nat → Nat) (most : Nat) (r : Nat → Nat) (c : Nat) : Nat → Nat
  | 0 => min (r 0 + 1) (most + 1)
  | i + 1 => min (min (min (r (i + 1) + 1) (nHear t most r c i + 1)) (if t i = c then r i else r i + 1)) (most + 1)
theorem nHear_le (t : Nat → Nat) (most : Nat) (r : Nat → Nat) (c i : Nat) : nHear t most r c i ≤ most + 1 := by
  cases i with
  | zero => simp only [nHear]; omega
  | succ i => simp only [nHear]; omega
theorem nHear_congr {t : Nat → Nat} {most : Nat} {r r' : Nat → Nat} {c i : Nat} (h : ∀ j, j ≤ i → r j = r' j) : nHear t most r c i = nHear t most r' c i := by
  induction i with
  | zero => simp only [nHear, h 0 (Nat.le_refl _)]
  | succ i ih => simp only [nHear]; rw [ih (fun j hj => h j (by omega)), h (i + 1) (Nat.le_refl _), h i (by omega)]
structure Ear where
  t : Nat → Nat
  m : Nat
  most : Nat
namespace Ear
variable (E : Ear)
def b0 : Nat := enc (nBegin E.most) (E.m + 1)
def row (q i : Nat) : Nat := dg (sw E.b0 q) i
def num (r : Nat → Nat) : Nat := sw E.b0 (enc r (E.m + 1))
def succ (q c : Nat) : Nat := E.num (nHear E.t E.most (E.row q) c)
def good (q : Nat) : Prop := q < 4 ^ (E.m + 1)
def tab (ps : List Nat) : Tab where
  n := ps.length
  acc k := decide (E.row (ps.getD k 0) E.m ≤ E.most)
  nxt := pn E.succ ps
variable {E}
theorem b0_lt (h : E.most ≤ 2) : E.b0 < 4 ^ (E.m + 1) := enc_lt (fun i _ => by unfold nBegin; omega)
theorem num_good (h : E.most ≤ 2) {r : Nat → Nat} (hr : ∀ i, i ≤ E.m → r i < 4) : E.good (E.num r) := sw_lt (b0_lt h) (enc_lt (fun i hi => hr i (by omega)))
theorem row_num {r : Nat → Nat} (hr : ∀ i, i ≤ E.m → r i < 4) {i : Nat} (hi : i ≤ E.m) : E.row (E.num r) i = r i := by
  unfold row num
  rw [sw_sw, dg_enc (fun i hi => hr i (by omega)) (by omega)]
theorem num_row (h : E.most ≤ 2) {q : Nat} (hq : E.good q) : E.num (E.row q) = q := by
  unfold row num
  rw [enc_dg (sw_lt (b0_lt h) hq), sw_sw]
theorem num_congr {r r' : Nat → Nat} (h : ∀ i, i ≤ E.m → r i = r' i) : E.num r = E.num r' := by unfold num; rw [enc_congr (fun i hi => h i (by omega))]
theorem row_inj (h : E.most ≤ 2) {q q' : Nat} (hq : E.good q) (hq' : E.good q') (hr : ∀ i, i ≤ E.m → E.row q i = E.row q' i) : q = q' := by
  rw [← num_row h hq, ← num_row h hq', num_congr hr]
theorem row_zero (h : E.most ≤ 2) {i : Nat} (hi : i ≤ E.m) : E.row 0 i = nBegin E.most i := by
  have : E.num (nBegin E.most) = 0 := by unfold num sw; rw [if_pos (show enc (nBegin E.most) (E.m + 1) = E.b0 from rfl)]
  rw [← this]
  exact row_num (fun i _ => by unfold nBegin; omega) hi
theorem hear_lt (h : E.most ≤ 2) (r : Nat → Nat) (c i : Nat) : nHear E.t E.most r c i < 4 := by have := nHear_le E.t E.most r c i; omega
theorem succ_good (h : E.most ≤ 2) (q c : Nat) : E.good (E.succ q c) := num_good h (fun i _ => hear_lt h _ c i)
theorem row_succ (h : E.most ≤ 2) (q c : Nat) {i : Nat} (hi : i ≤ E.m) : E.row (E.succ q c) i = nHear E.t E.most (E.row q) c i := row_num (fun i _ => hear_lt h _ c i) hi
theorem row_lt (q i : Nat) : E.row q i < 4 := dg_lt _ _
theorem good_zero : E.good 0 := Nat.pow_pos (by omega)
theorem bound {ps : List Nat} {p : Nat} (hm : E.m ≤ 12) (h : PRel E.good E.succ ps p) : ps.length ≤ 67108864 := by
  have h1 := nodup_bound (4 ^ (E.m + 1)) ps h.nd (fun x hx => h.inr x hx)
  have h2 : 4 ^ (E.m + 1) ≤ 4 ^ 13 := Nat.pow_le_pow_right (by omega) (by omega)
  omega
theorem numbered {ps : List Nat} (h : PRel E.good E.succ ps (8 * ps.length)) : Numbered (E.tab ps) where
  pos := h.len
  nx i c hi hc := by
    have := (h.clo (8 * i + c) (by have : i < ps.length := hi; omega)).2
    rw [show (8 * i + c) / 8 = i by omega, show (8 * i + c) % 8 = c by omega] at this
    exact List.idxOf_lt_length_of_mem this
  step p hp := h.num p hp
  row i hi := h.row i (by have : i < ps.length := hi; omega)
  all := h.cm
def lang (E : Ear) (x : List Nat) : Bool := decide (E.row (x.foldl E.succ 0) E.m ≤ E.most)
theorem tab_read {ps : List Nat} (h : PRel E.good E.succ ps (8 * ps.length)) (k : Nat) (hk : k < ps.length) (x : List Nat) (hx : Notes x) :
    (E.tab ps).read k x < ps.length ∧ ps.getD ((E.tab ps).read k x) 0 = x.foldl E.succ (ps.getD k 0) := by
  induction x generalizing k with
  | nil => exact ⟨hk, rfl⟩
  | cons c x ih =>
    have hc : c < 8 := hx c (by simp)
    have hx' : Notes x := fun d hd => hx d (by simp [hd])
    have hcl := (h.clo (8 * k + c) (by omega)).2
    rw [show (8 * k + c) / 8 = k by omega, show (8 * k + c) % 8 = c by omega] at hcl
    have hlt : (E.tab ps).nxt k c < ps.length := List.idxOf_lt_length_of_mem hcl
    have he : ps.getD ((E.tab ps).nxt k c) 0 = E.succ (ps.getD k 0) c := getD_idxOf ps _ hcl
    simp only [Tab.read, List.foldl_cons]
    have := ih _ hlt hx'
    rw [he] at this
    exact this
theorem tab_accepts {ps : List Nat} (h : PRel E.good E.succ ps (8 * ps.length)) (x : List Nat) (hx : Notes x) : (E.tab ps).accepts x = E.lang x := by
  have := tab_read h 0 h.len x hx
  rw [h.hd] at this
  simp only [Tab.accepts]
  show decide (E.row (ps.getD ((E.tab ps).read 0 x) 0) E.m ≤ E.most) = _
  rw [this.2]
  rfl
end Ear
end Go.Proofs.Ytpngikmcjkjdaab
namespace Go.Proofs.Ytpngikmcjkjdaab
open Go.RowKit
set_option linter.unusedVariables false
theorem lesser_ok (a b : Nat) (w : World) :
    Calls Try.prog 93 #[.int .i64 a, .int .i64 b] w fun e w' => e = .returned (.int .i64 ((min a b : Nat) : Int)) ∧ w' = w := by
  by_cases h : a < b
  · rw [Nat.min_eq_left (by omega)]
    have h' : (a : Int) < (b : Int) := by omega
    go_enter Try.func93, Try.ntmps93
    go_wp2
    go_ret
    exact ⟨rfl, rfl⟩
  · rw [Nat.min_eq_right (by omega)]
    have h' : ¬ (a : Int) < (b : Int) := by omega
    go_enter Try.func93, Try.ntmps93
    go_wp2
    go_ret
    exact ⟨rfl, rfl⟩
def row13 (f : Nat → Nat) : Array Value := #[.int .i64 ((f 0 : Nat) : Int), .int .i64 ((f 1 : Nat) : Int), .int .i64 ((f 2 : Nat) : Int), .int .i64 ((f 3 : Nat) : Int), .int .i64 ((f 4 : Nat) : Int), .int .i64 ((f 5 : Nat) : Int), .int .i64 ((f 6 : Nat) : Int), .int .i64 ((f 7 : Nat) : Int), .int .i64 ((f 8 : Nat) : Int), .int .i64 ((f 9 : Nat) : Int), .int .i64 ((f 10 : Nat) : Int), .int .i64 ((f 11 : Nat) : Int), .int .i64 ((f 12 : Nat) : Int)]
theorem row13_is {w : World} {b t : Nat} {f : Nat → Nat} (h : w.heap[b]? = some (.cells (row13 f) t (0, 0))) : w.rowIs b t 13 (fun i => .int .i64 ((f i : Nat) : Int)) := by
  refine ⟨_, h, rfl, fun i hi => ?_⟩
  rcases (show i = 0 ∨ i = 1 ∨ i = 2 ∨ i = 3 ∨ i = 4 ∨ i = 5 ∨ i = 6 ∨ i = 7 ∨ i = 8 ∨ i = 9 ∨ i = 10 ∨ i = 11 ∨ i = 12 by omega) with rfl | rfl | rfl | rfl | rfl | rfl | rfl | rfl | rfl | rfl | rfl | rfl | rfl <;> rfl
theorem rowIs13 {w : World} {b t : Nat} {f : Nat → Nat} (h : w.rowIs b t 13 (fun i => .int .i64 ((f i : Nat) : Int))) :
    w.cell? ⟨b, 0, none⟩ = some (.int .i64 ((f 0 : Nat) : Int)) ∧ w.cell? ⟨b, 1, none⟩ = some (.int .i64 ((f 1 : Nat) : Int)) ∧ w.cell? ⟨b, 2, none⟩ = some (.int .i64 ((f 2 : Nat) : Int)) ∧ w.cell? ⟨b, 3, none⟩ = some (.int .i64 ((f 3 : Nat) : Int)) ∧ w.cell? ⟨b, 4, none⟩ = some (.int .i64 ((f 4 : Nat) : Int)) ∧ w.cell? ⟨b, 5, none⟩ = some (.int .i64 ((f 5 : Nat) : Int)) ∧ w.cell? ⟨b, 6, none⟩ = some (.int .i64 ((f 6 : Nat) : Int)) ∧ w.cell? ⟨b, 7, none⟩ = some (.int .i64 ((f 7 : Nat) : Int)) ∧ w.cell? ⟨b, 8, none⟩ = some (.int .i64 ((f 8 : Nat) : Int)) ∧ w.cell? ⟨b, 9, none⟩ = some (.int .i64 ((f 9 : Nat) : Int)) ∧ w.cell? ⟨b, 10, none⟩ = some (.int .i64 ((f 10 : Nat) : Int)) ∧ w.cell? ⟨b, 11, none⟩ = some (.int .i64 ((f 11 : Nat) : Int)) ∧ w.cell? ⟨b, 12, none⟩ = some (.int .i64 ((f 12 : Nat) : Int)) :=
  ⟨h.cell (i := 0) (by omega), h.cell (i := 1) (by omega), h.cell (i := 2) (by omega), h.cell (i := 3) (by omega), h.cell (i := 4) (by omega), h.cell (i := 5) (by omega), h.cell (i := 6) (by omega), h.cell (i := 7) (by omega), h.cell (i := 8) (by omega), h.cell (i := 9) (by omega), h.cell (i := 10) (by omega), h.cell (i := 11) (by omega), h.cell (i := 12) (by omega)⟩
theorem rowIs13f {w : World} {b t : Nat} {f : Nat → Value} (h : w.rowIs b t 13 f) :
    w.frozen? ⟨b, 0, none⟩ = false ∧ w.frozen? ⟨b, 1, none⟩ = false ∧ w.frozen? ⟨b, 2, none⟩ = false ∧ w.frozen? ⟨b, 3, none⟩ = false ∧ w.frozen? ⟨b, 4, none⟩ = false ∧ w.frozen? ⟨b, 5, none⟩ = false ∧ w.frozen? ⟨b, 6, none⟩ = false ∧ w.frozen? ⟨b, 7, none⟩ = false ∧ w.frozen? ⟨b, 8, none⟩ = false ∧ w.frozen? ⟨b, 9, none⟩ = false ∧ w.frozen? ⟨b, 10, none⟩ = false ∧ w.frozen? ⟨b, 11, none⟩ = false ∧ w.frozen? ⟨b, 12, none⟩ = false :=
  ⟨h.frozen 0, h.frozen 1, h.frozen 2, h.frozen 3, h.frozen 4, h.frozen 5, h.frozen 6, h.frozen 7, h.frozen 8, h.frozen 9, h.frozen 10, h.frozen 11, h.frozen 12⟩
def put13 (w : World) (b : Nat) (f : Nat → Nat) : World := (((((((((((((w.setCell ⟨b, 0, none⟩ (.int .i64 ((f 0 : Nat) : Int))).setCell ⟨b, 1, none⟩ (.int .i64 ((f 1 : Nat) : Int))).setCell ⟨b, 2, none⟩ (.int .i64 ((f 2 : Nat) : Int))).setCell ⟨b, 3, none⟩ (.int .i64 ((f 3 : Nat) : Int))).setCell ⟨b, 4, none⟩ (.int .i64 ((f 4 : Nat) : Int))).setCell ⟨b, 5, none⟩ (.int .i64 ((f 5 : Nat) : Int))).setCell ⟨b, 6, none⟩ (.int .i64 ((f 6 : Nat) : Int))).setCell ⟨b, 7, none⟩ (.int .i64 ((f 7 : Nat) : Int))).setCell ⟨b, 8, none⟩ (.int .i64 ((f 8 : Nat) : Int))).setCell ⟨b, 9, none⟩ (.int .i64 ((f 9 : Nat) : Int))).setCell ⟨b, 10, none⟩ (.int .i64 ((f 10 : Nat) : Int))).setCell ⟨b, 11, none⟩ (.int .i64 ((f 11 : Nat) : Int))).setCell ⟨b, 12, none⟩ (.int .i64 ((f 12 : Nat) : Int)))
theorem put13_row {w : World} {b t : Nat} {g : Nat → Value} (f : Nat → Nat) (h : w.rowIs b t 13 g) : (put13 w b f).rowIs b t 13 (fun i => .int .i64 ((f i : Nat) : Int)) := by
  unfold put13
  refine ((((((((((((((h.set 0 _).set 1 _).set 2 _).set 3 _).set 4 _).set 5 _).set 6 _).set 7 _).set 8 _).set 9 _).set 10 _).set 11 _).set 12 _)).congr (fun i hi => ?_)
  rcases (show i = 0 ∨ i = 1 ∨ i = 2 ∨ i = 3 ∨ i = 4 ∨ i = 5 ∨ i = 6 ∨ i = 7 ∨ i = 8 ∨ i = 9 ∨ i = 10 ∨ i = 11 ∨ i = 12 by omega) with rfl | rfl | rfl | rfl | rfl | rfl | rfl | rfl | rfl | rfl | rfl | rfl | rfl <;> simp
theorem put13_below {W w : World} {B b : Nat} (f : Nat → Nat) (h : Below B W w) (hb : B ≤ b) : Below B W (put13 w b f) := by
  unfold put13
  exact (((((((((((((h.setCell hb _).setCell hb _).setCell hb _).setCell hb _).setCell hb _).setCell hb _).setCell hb _).setCell hb _).setCell hb _).setCell hb _).setCell hb _).setCell hb _).setCell hb _)
set_option maxRecDepth 20000 in
set_option maxHeartbeats 800000 in
theorem begin_ok (s : ByteArray) (most : Nat) (w : World) (hs : s.size ≤ 12) (hm : most ≤ 2) :
    Calls Try.prog 80 #[.agg #[.string s, .int .i64 most]] w fun e w' => e = .returned (.agg (row13 (fun i => if i ≤ s.size then nBegin most i else 0))) ∧ Below w.heap.size w w' := by
  obtain ⟨W, hW⟩ : ∃ W, W = (((w.alloc (.cells #[.string s, .int .i64 most] 101)).alloc (.cells (row13 (fun _ => 0)) 137)).alloc (.cells (row13 (fun _ => 0)) 137)) := ⟨_, rfl⟩
  have BW : Below w.heap.size w W := by
    rw [hW]; exact (((Below.refl _ _).alloc (Nat.le_refl _) _).alloc (by simp) _).alloc (by simp; omega) _
  have hWs : W.heap.size = w.heap.size + 1 + 1 + 1 := by rw [hW]; simp
  have b0 : W.heap[w.heap.size]? = some (.cells #[.string s, .int .i64 most] 101 (0, 0)) := by rw [hW]; exact heap_at_old (heap_at_old (heap_at_new (by simp)))
  have b1 : W.heap[w.heap.size + 1]? = some (.cells (row13 (fun _ => 0)) 137 (0, 0)) := by rw [hW]; exact heap_at_old (heap_at_new (by simp))
  have b2 : W.heap[w.heap.size + 1 + 1]? = some (.cells (row13 (fun _ => 0)) 137 (0, 0)) := by rw [hW]; exact heap_at_new (by simp)
  have r2 := row13_is b2
  unfold row13 at hW
  go_enter Try.func80, Try.ntmps80
  go_wp2_with fail
  simp only [Int.ofNat_zero] at hW
  rw [← hW]
  clear hW
  go_loopw [4] (fun i' wr => ∃ i : Nat, i ≤ s.size + 1 ∧ i' = .int .i64 i ∧ Below (w.heap.size + 1 + 1) W wr ∧ wr.rowIs (w.heap.size + 1 + 1) 137 13 (fun j => .int .i64 (((if j < i then nBegin most j else 0) : Nat) : Int))) (fun i' _ => s.size + 1 - (intOf i').toNat)
  case atStart => exact ⟨0, by omega, rfl, Below.refl _ _, r2.congr (fun j _ => by simp)⟩
  case round =>
    obtain ⟨i, hi, rfl, hb, hr⟩ := hrel
    clear r2
    obtain ⟨x0, x1, _, _⟩ := cell_two ((hb.block _ (by omega)).trans b0)
    by_cases hlt : i ≤ s.size
    · have c0 := hr.cell (i := i) (by omega)
      have c1 := hr.frozen i
      have HC := lesser_ok i (most + 1) wr
      rw [show ((most + 1 : Nat) : Int) = (most : Int) + 1 by simp] at HC
      have HR : Hid (wr.rowIs (w.heap.size + 1 + 1) 137 13 (fun j => .int .i64 (((if j < i then nBegin most j else 0) : Nat) : Int))) := hr
      have HB : Hid _ := hb
      clear hr hb
      go_wp2_with fail
      refine HC.mono ?_
      rintro e w' ⟨rfl, hw'⟩
      obtain rfl : wr = w' := hw'.symm
      clear HC
      go_wp2_with fail
      go_roundw
      case rel =>
        refine ⟨i + 1, by omega, by go_num, HB.out.setCell (p := ⟨w.heap.size + 1 + 1, i, none⟩) (Nat.le_refl _) _, (HR.out.set i _).congr (fun j _ => ?_)⟩
        by_cases e : j = i
        · subst e; simp [nBegin]
        · by_cases h' : j < i
          · simp only [e, h', if_false, if_true]; rw [if_pos (by omega)]
          · simp only [e, h', if_false]; rw [if_neg (by omega)]
      case measure => simp [intOf]; omega
    · have hle : ¬ (i : Int) ≤ (s.size : Int) := by omega
      have hr' : wr.rowIs (w.heap.size + 1 + 1) 137 13 (fun j => .int .i64 (((if j ≤ s.size then nBegin most j else 0) : Nat) : Int)) := hr.congr (fun j _ => by
        by_cases h' : j < i
        · rw [if_pos h', if_pos (by omega)]
        · rw [if_neg h', if_neg (by omega)])
      clear hr
      obtain ⟨f, hf⟩ : ∃ f : Nat → Nat, f = (fun j => if j ≤ s.size then nBegin most j else 0) := ⟨_, rfl⟩
      have HF : Hid (wr.rowIs (w.heap.size + 1 + 1) 137 13 (fun j => .int .i64 ((f j : Nat) : Int))) := by rw [hf]; exact hr'
      have HFF : Hid (f = (fun j => if j ≤ s.size then nBegin most j else 0)) := hf
      clear hr' hf
      obtain ⟨c0, c1, c2, c3, c4, c5, c6, c7, c8, c9, c10, c11, c12⟩ := rowIs13 HF.out
      have r1 := (row13_is b1).of_block (hb.block _ (by omega))
      obtain ⟨d0, d1, d2, d3, d4, d5, d6, d7, d8, d9, d10, d11, d12⟩ := rowIs13 r1
      obtain ⟨e0, e1, e2, e3, e4, e5, e6, e7, e8, e9, e10, e11, e12⟩ := rowIs13f r1
      have HR1 : Hid (wr.rowIs (w.heap.size + 1) 137 13 (fun _ => .int .i64 ((0 : Nat) : Int))) := r1
      have HB : Hid _ := hb
      clear r1 hb
      go_wp2_with fail
      obtain ⟨W9, hW9⟩ : ∃ W9, W9 = put13 wr (w.heap.size + 1) f := ⟨_, rfl⟩
      have hr9 := put13_row f HR1.out
      have hb9 : Below w.heap.size w (put13 wr (w.heap.size + 1) f) := put13_below f (BW.trans (HB.out.mono (by omega))) (by omega)
      rw [← hW9] at hr9 hb9
      unfold put13 at hW9
      rw [← hW9]
      clear hW9 c0 c1 c2 c3 c4 c5 c6 c7 c8 c9 c10 c11 c12
      obtain ⟨c0, c1, c2, c3, c4, c5, c6, c7, c8, c9, c10, c11, c12⟩ := rowIs13 hr9
      refine bodyPost_ret (v := .agg (row13 f)) (by simp [results, Try.results80, go_sem, row13, c0, c1, c2, c3, c4, c5, c6, c7, c8, c9, c10, c11, c12]) rfl ?_
      exact ⟨by rw [HFF.out], hb9⟩
end Go.Proofs.Ytpngikmcjkjdaab
namespace Go.Proofs.Ytpngikmcjkjdaab
open Go.RowKit
set_option linter.unusedVariables false
def noteAt (s : ByteArray) (i : Nat) : Nat := (s.data.toList.getD i 0).toNat - 97
theorem lesser_int (a b : Int) (w : World) :
    Calls Try.prog 93 #[.int .i64 a, .int .i64 b] w fun e w' => e = .returned (.int .i64 (min a b)) ∧ w = w' := by
  by_cases h : a < b
  · rw [show min a b = a by omega]
    go_enter Try.func93, Try.ntmps93
    go_wp2
    go_ret
    exact ⟨rfl, rfl⟩
  · rw [show min a b = b by omega]
    go_enter Try.func93, Try.ntmps93
    go_wp2
    go_ret
    exact ⟨rfl, rfl⟩
theorem number_yes' (b : Int) (w : World) (h1 : 97 ≤ b) (h2 : b ≤ 104) :
    Calls Try.prog 58 #[.int .u8 b] w fun e w' => e = .returned (.tuple #[.int .i64 (b - 97), .bool true]) ∧ w = w' :=
  (number_yes b w h1 h2).mono (fun e w' h => ⟨h.1, h.2.symm⟩)
theorem noteAt_eq {s : ByteArray} {i : Nat} (h : i < s.size) : noteAt s i = s[i].toNat - 97 := by unfold noteAt; rw [getD_byte s i h]
set_option maxRecDepth 20000 in
set_option maxHeartbeats 1600000 in
theorem hear_ok (s : ByteArray) (most c : Nat) (f : Nat → Nat) (w : World) (hs : s.size ≤ 12) (hm : most ≤ 2) (ht : IsText s) (hf : ∀ i, i ≤ 12 → f i ≤ 3) :
    Calls Try.prog 81 #[.agg #[.string s, .int .i64 most], .agg (row13 f), .int .i64 c] w fun e w' => e = .returned (.agg (row13 (fun i => if i ≤ s.size then nHear (noteAt s) most f c i else 0))) ∧ Below w.heap.size w w' := by
  obtain ⟨W, hW⟩ : ∃ W, W = ((((w.alloc (.cells #[.string s, .int .i64 most] 101)).alloc (.cells (row13 f) 137)).alloc (.cells (row13 (fun _ => 0)) 137)).alloc (.cells (row13 (fun _ => 0)) 137)) := ⟨_, rfl⟩
  have BW : Below w.heap.size w W := by
    rw [hW]; exact ((((Below.refl _ _).alloc (Nat.le_refl _) _).alloc (by simp) _).alloc (by simp; omega) _).alloc (by simp; omega) _
  have hWs : W.heap.size = w.heap.size + 1 + 1 + 1 + 1 := by rw [hW]; simp
  have b0 : W.heap[w.heap.size]? = some (.cells #[.string s, .int .i64 most] 101 (0, 0)) := by rw [hW]; exact heap_at_old (heap_at_old (heap_at_old (heap_at_new (by simp))))
  have b1 : W.heap[w.heap.size + 1]? = some (.cells (row13 f) 137 (0, 0)) := by rw [hW]; exact heap_at_old (heap_at_old (heap_at_new (by simp)))
  have b2 : W.heap[w.heap.size + 1 + 1]? = some (.cells (row13 (fun _ => 0)) 137 (0, 0)) := by rw [hW]; exact heap_at_old (heap_at_new (by simp))
  have b3 : W.heap[w.heap.size + 1 + 1 + 1]? = some (.cells (row13 (fun _ => 0)) 137 (0, 0)) := by rw [hW]; exact heap_at_new (by simp)
  have r1 := row13_is b1
  have r3 := row13_is b3
  rw [show row13 (fun _ => 0) = #[.int .i64 0, .int .i64 0, .int .i64 0, .int .i64 0, .int .i64 0, .int .i64 0, .int .i64 0, .int .i64 0, .int .i64 0, .int .i64 0, .int .i64 0, .int .i64 0, .int .i64 0] from rfl] at hW
  obtain ⟨x0, x1, _, _⟩ := cell_two b0
  have c0 := r1.cell (i := 0) (by omega)
  have c1 := r3.cell (i := 0) (by omega)
  have c2 := r3.frozen 0
  go_enter Try.func81, Try.ntmps81
  go_upto_region 2 with fail
  rw [← hW]
  clear hW
  have f0 := hf 0 (by omega)
  go_wp2_with (go_at_call 93; refine (lesser_int _ _ _).mono ?_; rintro e w' ⟨rfl, rfl⟩)
  have P0 : (W.setCell ⟨w.heap.size + 1 + 1 + 1, 0, none⟩ (.int .i64 (min (f 0 : Int) (most : Int) + 1))).rowIs (w.heap.size + 1 + 1 + 1) 137 13 (fun j => .int .i64 (((if j ≤ 0 then nHear (noteAt s) most f c j else 0) : Nat) : Int)) := by
    refine (r3.set 0 _).congr (fun j _ => ?_)
    by_cases e : j = 0
    · subst e; simp [nHear]; omega
    · simp [e]
  have B0 : Below (w.heap.size + 1 + 1 + 1) W (W.setCell ⟨w.heap.size + 1 + 1 + 1, 0, none⟩ (.int .i64 (min (f 0 : Int) (most : Int) + 1))) := (Below.refl _ _).setCell (p := ⟨w.heap.size + 1 + 1 + 1, 0, none⟩) (Nat.le_refl _) _
  clear r3 c0 c1 c2 x0 x1
  go_loopw [8, 9, 10, 11, 12, 13, 14] (fun i' _ _ _ _ _ _ wr => ∃ i : Nat, i ≤ s.size ∧ i' = .int .i64 i ∧ Below (w.heap.size + 1 + 1 + 1) W wr ∧ wr.rowIs (w.heap.size + 1 + 1 + 1) 137 13 (fun j => .int .i64 (((if j ≤ i then nHear (noteAt s) most f c j else 0) : Nat) : Int)))
    (fun i' _ _ _ _ _ _ _ => s.size - (intOf i').toNat)
  case atStart => exact ⟨0, by omega, rfl, B0, P0⟩
  case round =>
    obtain ⟨i, hi, rfl, hb, hr⟩ := hrel
    clear P0 B0
    obtain ⟨x0, x1, _, _⟩ := cell_two ((hb.block _ (by omega)).trans b0)
    by_cases hlt : i < s.size
    · have hch := isText_at ht i hlt
      have hno := noteAt_eq hlt
      have q1 := r1.of_block (hb.block _ (by omega))
      have c0 := q1.cell (i := i) (by omega)
      have c1 := q1.cell (i := i + 1) (by omega)
      have d0 := hr.cell (i := i) (by omega)
      have d1 := hr.cell (i := i + 1) (by omega)
      have d2 := hr.frozen (i + 1)
      have f0 := hf i (by omega)
      have f1 := hf (i + 1) (by omega)
      have hnl := nHear_le (noteAt s) most f c i
      simp only [Nat.le_refl, if_true] at d0
      rw [if_neg (by omega)] at d1
      have HS : Hid (nHear (noteAt s) most f c (i + 1) = min (min (min (f (i + 1) + 1) (nHear (noteAt s) most f c i + 1)) (if noteAt s i = c then f i else f i + 1)) (most + 1)) := rfl
      obtain ⟨hh, HH⟩ : ∃ x, Hid (nHear (noteAt s) most f c i = x) := ⟨_, rfl⟩
      have HR : Hid (wr.rowIs (w.heap.size + 1 + 1 + 1) 137 13 (fun j => .int .i64 (((if j ≤ i then nHear (noteAt s) most f c j else 0) : Nat) : Int))) := hr
      have HB : Hid _ := hb
      rw [HH.out] at d0 hnl HS
      clear hr hb q1
      by_cases hsame : noteAt s i = c
      · rw [if_pos hsame] at HS
        have hb1 : (((s[i].toNat : Int) - 97) != (c : Int)) = false := by simp; omega
        go_wp2_with (first | (go_at_call 58; refine (number_yes' _ _ hch.1 hch.2).mono ?_; rintro e w' ⟨rfl, rfl⟩) | (go_at_call 93; refine (lesser_int _ _ _).mono ?_; rintro e w' ⟨rfl, rfl⟩))
        go_roundw
        case rel =>
          refine ⟨i + 1, by omega, by go_num, HB.out.setCell (p := ⟨w.heap.size + 1 + 1 + 1, i + 1, none⟩) (Nat.le_refl _) _, (HR.out.set (i + 1) _).congr (fun j _ => ?_)⟩
          by_cases e : j = i + 1
          · subst e
            simp only [if_true, Nat.le_refl]
            rw [HS.out]
            congr 1
            omega
          · simp only [if_neg e]
            by_cases h' : j ≤ i
            · rw [if_pos h', if_pos (by omega)]
            · rw [if_neg h', if_neg (by omega)]
        case measure => simp [intOf]; omega
      · rw [if_neg hsame] at HS
        have hb1 : (((s[i].toNat : Int) - 97) != (c : Int)) = true := by simp; omega
        go_wp2_with (first | (go_at_call 58; refine (number_yes' _ _ hch.1 hch.2).mono ?_; rintro e w' ⟨rfl, rfl⟩) | (go_at_call 93; refine (lesser_int _ _ _).mono ?_; rintro e w' ⟨rfl, rfl⟩))
        go_roundw
        case rel =>
          refine ⟨i + 1, by omega, by go_num, HB.out.setCell (p := ⟨w.heap.size + 1 + 1 + 1, i + 1, none⟩) (Nat.le_refl _) _, (HR.out.set (i + 1) _).congr (fun j _ => ?_)⟩
          by_cases e : j = i + 1
          · subst e
            simp only [if_true, Nat.le_refl]
            rw [HS.out]
            congr 1
            omega
          · simp only [if_neg e]
            by_cases h' : j ≤ i
            · rw [if_pos h', if_pos (by omega)]
            · rw [if_neg h', if_neg (by omega)]
        case measure => simp [intOf]; omega
    · have he : i = s.size := by omega
      subst he
      obtain ⟨g, hg⟩ : ∃ g : Nat → Nat, g = (fun j => if j ≤ s.size then nHear (noteAt s) most f c j else 0) := ⟨_, rfl⟩
      have HF : Hid (wr.rowIs (w.heap.size + 1 + 1 + 1) 137 13 (fun j => .int .i64 ((g j : Nat) : Int))) := by rw [hg]; exact hr
      have HFF : Hid (g = (fun j => if j ≤ s.size then nHear (noteAt s) most f c j else 0)) := hg
      clear hr hg r1
      obtain ⟨c0, c1, c2, c3, c4, c5, c6, c7, c8, c9, c10, c11, c12⟩ := rowIs13 HF.out
      have r1 := (row13_is b2).of_block (hb.block _ (by omega))
      obtain ⟨d0, d1, d2, d3, d4, d5, d6, d7, d8, d9, d10, d11, d12⟩ := rowIs13 r1
      obtain ⟨e0, e1, e2, e3, e4, e5, e6, e7, e8, e9, e10, e11, e12⟩ := rowIs13f r1
      have HR1 : Hid (wr.rowIs (w.heap.size + 1 + 1) 137 13 (fun _ => .int .i64 ((0 : Nat) : Int))) := r1
      have HB : Hid _ := hb
      clear r1 hb
      go_wp2_with fail
      obtain ⟨W9, hW9⟩ : ∃ W9, W9 = put13 wr (w.heap.size + 1 + 1) g := ⟨_, rfl⟩
      have hr9 := put13_row g HR1.out
      have hb9 : Below w.heap.size w (put13 wr (w.heap.size + 1 + 1) g) := put13_below g (BW.trans (HB.out.mono (by omega))) (by omega)
      rw [← hW9] at hr9 hb9
      unfold put13 at hW9
      rw [← hW9]
      clear hW9 c0 c1 c2 c3 c4 c5 c6 c7 c8 c9 c10 c11 c12
      obtain ⟨c0, c1, c2, c3, c4, c5, c6, c7, c8, c9, c10, c11, c12⟩ := rowIs13 hr9
      refine bodyPost_ret (v := .agg (row13 g)) (by simp [results, Try.results81, go_sem, row13, c0, c1, c2, c3, c4, c5, c6, c7, c8, c9, c10, c11, c12]) rfl ?_
      exact ⟨by rw [HFF.out], hb9⟩
end Go.Proofs.Ytpngikmcjkjdaab
namespace Go.Proofs.Ytpngikmcjkjdaab
open Go.RowKit
set_option linter.unusedVariables false
theorem run_equalIn_ints {P : Program} (w : World) (d : Nat) (t e : TypeId) (n : Nat) (ht : P.underlying t = some (.array n e)) (he : P.underlying e = some (.int .i64)) (hsz : ∀ w, (sizeOf e).run P w = .ok 1 w) (f g : Nat → Nat) :
    (Op.equalIn (d + 2) t (.agg ((List.range n).map fun i => Value.int .i64 ((f i : Nat) : Int)).toArray) (.agg ((List.range n).map fun i => Value.int .i64 ((g i : Nat) : Int)).toArray)).run P w = .ok ((List.range n).all fun i => f i == g i) w := by
  rw [Op.equalIn]
  simp only [Sem.run_bind, run_underlying ht, Result.andThen_ok, hsz, Std.Legacy.Range.forIn_eq_forIn_range', Std.Legacy.Range.size, Nat.sub_zero, Nat.add_sub_cancel, Nat.div_one]
  have hl : ∀ i ∈ List.range' 0 n 1, i < n := fun i hi => by simpa using (List.mem_range'_1.1 hi).2
  conv => rhs; rw [List.range_eq_range']
  generalize List.range' 0 n 1 = l at hl ⊢
  induction l with
  | nil => simp
  | cons i l ih =>
    have hi : i < n := hl i (by simp)
    have px : (part e ((List.range n).map fun i => Value.int .i64 ((f i : Nat) : Int)).toArray (i * 1)).run P w = .ok (.int .i64 ((f i : Nat) : Int)) w := by
      simp [part, isAgg, run_underlying he, hi]
    have py : (part e ((List.range n).map fun i => Value.int .i64 ((g i : Nat) : Int)).toArray (i * 1)).run P w = .ok (.int .i64 ((g i : Nat) : Int)) w := by
      simp [part, isAgg, run_underlying he, hi]
    have pe : (Op.equalIn (d + 1) e (.int .i64 ((f i : Nat) : Int)) (.int .i64 ((g i : Nat) : Int))).run P w = .ok (f i == g i) w := by
      rw [run_equalIn_int w d e .i64 .i64 _ _ he]
      congr 1
      rw [Bool.eq_iff_iff]
      simp only [beq_iff_eq]
      constructor <;> intro h <;> omega
    simp only [List.forIn_cons, Sem.run_bind, px, py, pe, Result.andThen_ok, List.all_cons]
    cases hb : (f i == g i)
    · simp
    · simp only [Bool.not_true, Bool.false_eq_true, if_false, Sem.run_pure, Result.andThen_ok, Bool.true_and]
      exact ih fun j hj => hl j (by simp [hj])
theorem run_eq13 (f g : Nat → Nat) (w : World) : Sem.run Try.prog (Op.equalIn 10000 137 (.agg (row13 f)) (.agg (row13 g))) w = .ok ((List.range 13).all fun i => f i == g i) w := by
  obtain ⟨i3, hi3, hz3, hz31, hz32⟩ := info_parts Try.info3
  have h := run_equalIn_ints (P := Try.prog) w 9998 137 3 13 Try.underlying137 Try.underlying3 (fun w => by rw [run_sizeOf w hi3]; simp [Program.cellsOf, hi3, hz31]) f g
  have e1 : row13 f = ((List.range 13).map fun i => Value.int .i64 ((f i : Nat) : Int)).toArray := rfl
  have e2 : row13 g = ((List.range 13).map fun i => Value.int .i64 ((g i : Nat) : Int)).toArray := rfl
  rw [e1, e2, h]
set_option maxRecDepth 20000 in
set_option maxHeartbeats 1600000 in
theorem efind_ok (ao : Option Addr) (g n cap : Nat) (F : Nat → Nat → Nat) (f : Nat → Nat) (w : World) (hn : n ≤ 100000000) (ho : 0 < n → ao = some ⟨g, 0, none⟩) (hc : ∀ k i, k < n → i < 13 → w.cell? ⟨g, k * 13 + i, none⟩ = some (.int .i64 ((F k i : Nat) : Int))) :
    Calls Try.prog 82 #[.slice ao n cap, .agg (row13 f)] w fun e w' => Below w.heap.size w w' ∧ ∃ k, e = .returned (.int .i64 ((k : Nat) : Int)) ∧ k ≤ n ∧ (k < n → ∀ i, i < 13 → F k i = f i) ∧ ∀ j, j < k → ∃ i, i < 13 ∧ F j i ≠ f i := by
  obtain ⟨W, hW⟩ : ∃ W, W = w.alloc (.cells (row13 f) 137) := ⟨_, rfl⟩
  have BW : Below w.heap.size w W := by rw [hW]; exact (Below.refl _ _).alloc (Nat.le_refl _) _
  have hWs : W.heap.size = w.heap.size + 1 := by rw [hW]; simp
  have b0 : W.heap[w.heap.size]? = some (.cells (row13 f) 137 (0, 0)) := by rw [hW]; exact heap_at_new (by simp)
  go_enter Try.func82, Try.ntmps82
  go_wp2_with fail
  rw [← hW]
  clear hW
  go_loopw [5, 6, 9] (fun _ _ k' wr => ∃ k : Nat, k ≤ n ∧ k' = .int .i64 k ∧ Below (w.heap.size + 1) W wr ∧ ∀ j, j < k → ∃ i, i < 13 ∧ F j i ≠ f i)
    (fun _ _ k' _ => n - (intOf k').toNat)
  case atStart => exact ⟨0, by omega, rfl, Below.refl _ _, fun j hj => absurd hj (by omega)⟩
  case round =>
    obtain ⟨k, hk, rfl, hb, hno⟩ := hrel
    have hbw : Below w.heap.size w wr := BW.trans (hb.mono (by omega))
    have hbs := hb.size
    by_cases hlt : k < n
    · obtain rfl := ho (by omega)
      have hgl : g < w.heap.size := lt_of_cell (hc k 0 hlt (by omega))
      have hcc : ∀ i, i < 13 → wr.cell? ⟨g, k * 13 + i, none⟩ = some (.int .i64 ((F k i : Nat) : Int)) := fun i hi => by rw [hbw.cell (p := ⟨g, k * 13 + i, none⟩) hgl]; exact hc k i hlt hi
      have c0 := hcc 0 (by omega)
      have c1 := hcc 1 (by omega)
      have c2 := hcc 2 (by omega)
      have c3 := hcc 3 (by omega)
      have c4 := hcc 4 (by omega)
      have c5 := hcc 5 (by omega)
      have c6 := hcc 6 (by omega)
      have c7 := hcc 7 (by omega)
      have c8 := hcc 8 (by omega)
      have c9 := hcc 9 (by omega)
      have c10 := hcc 10 (by omega)
      have c11 := hcc 11 (by omega)
      have c12 := hcc 12 (by omega)
      simp only [Nat.add_zero] at c0
      clear hcc
      go_upto_region 4 with fail
      obtain ⟨W4, hW4⟩ : ∃ W4, W4 = wr.alloc (.cells (row13 (F k)) 137) := ⟨_, rfl⟩
      have hB4 : Below (w.heap.size + 1) W W4 := by rw [hW4]; exact hb.alloc (by omega) _
      have hr4 := row13_is (w := W4) (b := wr.heap.size) (t := 137) (f := F k) (by rw [hW4]; exact heap_at_new rfl)
      unfold row13 at hW4
      rw [← hW4]
      clear hW4 c0 c1 c2 c3 c4 c5 c6 c7 c8 c9 c10 c11 c12
      obtain ⟨c0, c1, c2, c3, c4, c5, c6, c7, c8, c9, c10, c11, c12⟩ := rowIs13 hr4
      obtain ⟨d0, d1, d2, d3, d4, d5, d6, d7, d8, d9, d10, d11, d12⟩ := rowIs13 ((row13_is b0).of_block (hB4.block _ (by omega)))
      have he := run_eq13 (F k) f W4
      obtain ⟨bb, HBB⟩ : ∃ x, Hid (((List.range 13).all fun i => F k i == f i) = x) := ⟨_, rfl⟩
      rw [HBB.out] at he
      unfold row13 at he
      have HB : Hid _ := hB4
      have HN : Hid _ := hno
      clear hr4 hb hbw hno hB4
      cases bb
      · go_wp2_with fail
        go_roundw
        case rel =>
          refine ⟨k + 1, by omega, by go_num, HB.out, fun j hj => ?_⟩
          by_cases e : j = k
          · subst e
            have := HBB.out
            rw [List.all_eq_false] at this
            obtain ⟨i, hi, hne⟩ := this
            exact ⟨i, by simpa using hi, by simpa using hne⟩
          · exact HN.out j (by omega)
        case measure => simp [intOf]; omega
      · go_wp2_with fail
        go_ret
        refine ⟨BW.trans (HB.out.mono (by omega)), k, rfl, by omega, fun _ i hi => ?_, HN.out⟩
        have := HBB.out
        rw [List.all_eq_true] at this
        simpa using this i (by simpa using hi)
    · have he : k = n := by omega
      subst he
      go_wp2_with fail
      go_ret
      exact ⟨hbw, k, rfl, Nat.le_refl _, fun h' => absurd h' (by omega), hno⟩
end Go.Proofs.Ytpngikmcjkjdaab
namespace Go.Proofs.Ytpngikmcjkjdaab
open Go.RowKit
set_option linter.unusedVariables false
def hv (E : Ear) (q i : Nat) : Nat := if i ≤ E.m then E.row q i else 0
def hcells (X : Nat → Nat → Nat) : Nat → List Value
  | 0 => []
  | k + 1 => hcells X k ++ (List.range 13).map fun c => .int .i64 ((X k c : Nat) : Int)
theorem hcells_len (X : Nat → Nat → Nat) (k : Nat) : (hcells X k).length = k * 13 := by
  induction k with
  | zero => rfl
  | succ k ih => simp only [hcells, List.length_append, ih, List.length_map, List.length_range]; omega
theorem hcells_at (X : Nat → Nat → Nat) (k i c : Nat) (hi : i < k) (hc : c < 13) : (hcells X k)[i * 13 + c]? = some (.int .i64 ((X i c : Nat) : Int)) := by
  induction k with
  | zero => omega
  | succ k ih =>
    simp only [hcells]
    by_cases e : i = k
    · subst e
      rw [List.getElem?_append_right (by rw [hcells_len]; omega), hcells_len, show i * 13 + c - i * 13 = c by omega]
      simp [hc]
    · rw [List.getElem?_append_left (by rw [hcells_len]; omega)]; exact ih (by omega)
theorem hcells_congr {X Y : Nat → Nat → Nat} {k : Nat} (h : ∀ i c, i < k → c < 13 → X i c = Y i c) : hcells X k = hcells Y k := by
  induction k with
  | zero => rfl
  | succ k ih =>
    simp only [hcells]
    rw [ih (fun i c hi hc => h i c (by omega) hc)]
    congr 1
    apply List.map_congr_left
    intro c hc
    rw [h k c (by omega) (by simpa using hc)]
section
variable {w w2 : World}
theorem ear_apart {base base' e e' s s' n n' : Nat} {v v' : Value} {x x' : List Value} (h : w.ownsRow base e s v n x) (h' : w.ownsRow base' e' s' v' n' x') (hne : e ≠ e') (g : Nat) (hg : v.ownBlock = some g) (hg' : v'.ownBlock = some g) : False := by
  rcases h.2 with ⟨rfl, _⟩ | ⟨a, cap, cur, rfl, _, h1, _⟩
  · simp [Value.ownBlock] at hg
  · rcases h'.2 with ⟨rfl, _⟩ | ⟨a', cap', cur', rfl, _, h2, _⟩
    · simp [Value.ownBlock] at hg'
    · simp only [Value.ownBlock, Option.some.injEq] at hg hg'
      subst hg; subst hg'
      rw [h1] at h2
      simp only [Option.some.injEq, Obj.cells.injEq] at h2
      exact hne h2.2.1
theorem ear_blk {base e s n t b m : Nat} {v : Value} {x : List Value} {f : Nat → Value} (h : w.ownsRow base e s v n x) (hb : w.rowIs b t m f) (hne : e ≠ t) (g : Nat) (hg : v.ownBlock = some g) : g ≠ b := by
  obtain ⟨c, hb, _, _⟩ := hb
  rcases h.2 with ⟨rfl, _⟩ | ⟨a, cap, cur, rfl, _, h1, _⟩
  · simp [Value.ownBlock] at hg
  · simp only [Value.ownBlock, Option.some.injEq] at hg
    subst hg
    rintro rfl
    rw [h1] at hb
    simp only [Option.some.injEq, Obj.cells.injEq] at hb
    exact hne hb.2.1
theorem ear_keeps {base base' e e' s s' n n' : Nat} {v v' : Value} {x x' : List Value} (h : w.ownsRow base e s v n x) (h' : w.ownsRow base' e' s' v' n' x') (hne : e ≠ e') (hg : w.grownBy w2 v'.ownBlock) : w2.ownsRow base e s v n x := by
  refine h.kept hg ?_
  cases hv : v.ownBlock with
  | none => exact .inl rfl
  | some k => exact .inr (fun e => ear_apart h h' hne k hv e.symm)
end
structure WMem (W : World) (gw : Nat) (w : World) (X : Nat → Nat → Nat) (n : Nat) (vs va vn : Value) (k : Nat) (xa xn : List Value) : Prop where
  blw : Below gw W w
  blk : w.heap[gw]? = some (.cells #[va, vn] 125 (0, 0))
  own0 : w.ownsRow (gw + 1) 4 1 va k xa
  own1 : w.ownsRow (gw + 1) 113 8 vn k xn
  own2 : w.ownsRow (gw + 1) 137 13 vs n (hcells X n)
structure WRound (W : World) (gw H : Nat) (w : World) (X : Nat → Nat → Nat) (n : Nat) (vs va vn : Value) (k : Nat) (xa xn : List Value) (r : Nat → Nat) : Prop where
  mem : WMem W gw w X n vs va vn k xa xn
  rw : w.rowIs H 113 8 (fun c => .int .i64 ((r c : Nat) : Int))
  lo : gw + 1 ≤ H
  dn : ∀ g, vn.ownBlock = some g → g ≠ H
section
variable {W : World} {gw H : Nat} {w w1 w2 : World} {X : Nat → Nat → Nat} {n : Nat} {vs va vn : Value} {k : Nat} {xa xn : List Value} {r : Nat → Nat}
theorem WMem.below (h : WMem W gw w X n vs va vn k xa xn) (hb : Below w.heap.size w w1) : WMem W gw w1 X n vs va vn k xa xn :=
  ⟨h.blw.trans (hb.mono (by have := heap_lt h.blk; omega)), (hb.block _ (heap_lt h.blk)).trans h.blk, ownsRow_below h.own0 hb, ownsRow_below h.own1 hb, ownsRow_below h.own2 hb⟩
theorem WRound.below (h : WRound W gw H w X n vs va vn k xa xn r) (hb : Below w.heap.size w w1) : WRound W gw H w1 X n vs va vn k xa xn r :=
  ⟨h.mem.below hb, h.rw.of_block (hb.block _ h.rw.lt), h.lo, h.dn⟩
theorem WMem.round (h : WMem W gw w X n vs va vn k xa xn) : WRound W gw w.heap.size (w.alloc (.cells #[.int .i64 0, .int .i64 0, .int .i64 0, .int .i64 0, .int .i64 0, .int .i64 0, .int .i64 0, .int .i64 0] 113)) X n vs va vn k xa xn (fun _ => 0) := by
  refine ⟨h.below ((Below.refl _ _).alloc (Nat.le_refl _) _), ⟨_, heap_at_new rfl, rfl, fun i hi => ?_⟩, by have := heap_lt h.blk; omega, fun g hg => by have := (h.own1.lt g hg).2; omega⟩
  rcases (show i = 0 ∨ i = 1 ∨ i = 2 ∨ i = 3 ∨ i = 4 ∨ i = 5 ∨ i = 6 ∨ i = 7 by omega) with rfl | rfl | rfl | rfl | rfl | rfl | rfl | rfl <;> rfl
theorem WRound.put (h : WRound W gw H w X n vs va vn k xa xn r) (c v : Nat) : WRound W gw H (w.setCell ⟨H, c, none⟩ (.int .i64 (v : Int))) X n vs va vn k xa xn (fun x => if x = c then v else r x) := by
  have hm := h.mem
  have hlo := h.lo
  refine ⟨⟨hm.blw.setCell (p := ⟨H, c, none⟩) (by simp; omega) _, heap_set_other hm.blk (by simp; omega), ownsRow_set hm.own0 _ _ (fun g hg => ear_blk hm.own0 h.rw (by decide) g hg), ownsRow_set hm.own1 _ _ (fun g hg => h.dn g hg), ownsRow_set hm.own2 _ _ (fun g hg => ear_blk hm.own2 h.rw (by decide) g hg)⟩, (h.rw.set c _).congr (fun x _ => ?_), h.lo, h.dn⟩
  by_cases e : x = c
  · simp [e]
  · simp [e]
theorem WRound.rcongr (h : WRound W gw H w X n vs va vn k xa xn r) {r' : Nat → Nat} (e : ∀ x, x < 8 → r x = r' x) : WRound W gw H w X n vs va vn k xa xn r' :=
  ⟨h.mem, h.rw.congr (fun x hx => by rw [e x hx]), h.lo, h.dn⟩
theorem WRound.xcongr (h : WRound W gw H w X n vs va vn k xa xn r) {X' : Nat → Nat → Nat} (e : ∀ i c, i < n → c < 13 → X i c = X' i c) : WRound W gw H w X' n vs va vn k xa xn r :=
  ⟨⟨h.mem.blw, h.mem.blk, h.mem.own0, h.mem.own1, by have := h.mem.own2; rw [hcells_congr e] at this; exact this⟩, h.rw, h.lo, h.dn⟩
theorem WRound.grown (h : WRound W gw H w X n vs va vn k xa xn r) {g cap : Nat} (hown : w2.ownsRow (gw + 1) 137 13 (.slice (some ⟨g, 0, none⟩) (n + 1) cap) (n + 1) (hcells X n ++ (List.range 13).map fun c => .int .i64 ((X n c : Nat) : Int))) (hg : w.grownBy w2 vs.ownBlock) :
    WRound W gw H w2 X (n + 1) (.slice (some ⟨g, 0, none⟩) (n + 1) cap) va vn k xa xn r := by
  have hm := h.mem
  have hsz := heap_lt hm.blk
  refine ⟨⟨hm.blw.grown hg (by omega) (fun x e => by have := (hm.own2.lt x e).1; omega), ?_, ear_keeps hm.own0 hm.own2 (by decide) hg, ear_keeps hm.own1 hm.own2 (by decide) hg, hown⟩, rowIs_grown h.rw hg (fun e => ear_blk hm.own2 h.rw (by decide) H e rfl), h.lo, h.dn⟩
  rw [hg.block _ hsz (fun e => by have := (hm.own2.lt _ e.symm).1; omega)]; exact hm.blk
theorem WRound.add (h : WRound W gw H w X n vs va vn k xa xn r) {va' vn' : Value} {ya yn : List Value} (hb : w2.heap[gw]? = some (.cells #[va', vn'] 125 (0, 0)))
    (h0 : w2.ownsRow (gw + 1) 4 1 va' (k + 1) ya) (h1 : w2.ownsRow (gw + 1) 113 8 vn' (k + 1) yn)
    (ht : Touch (fun b => b = gw ∨ va.ownBlock = some b ∨ vn.ownBlock = some b) w w2) : WMem W gw w2 X n vs va' vn' (k + 1) ya yn := by
  have hm := h.mem
  have hsz := heap_lt hm.blk
  refine ⟨ht.below hm.blw (by omega) ?_, hb, h0, h1, ht.own hm.own2 ?_⟩
  · rintro x (rfl | e | e)
    · omega
    · have := (hm.own0.lt _ e).1; omega
    · have := (hm.own1.lt _ e).1; omega
  · rintro g hg (rfl | e | e)
    · have := (hm.own2.lt _ hg).1; omega
    · exact ear_apart hm.own2 hm.own0 (by decide) g hg e
    · exact ear_apart hm.own2 hm.own1 (by decide) g hg e
end
theorem Try.infoEar : (Try.prog.info? 137).map (fun i => (i.zero, i.size, i.bytes)) = some (some (.agg (row13 (fun _ => 0))), 13, 104) := by kernel_rfl
theorem cell13_new (w : World) (f : Nat → Nat) (t : TypeId) : ∀ (j : Nat) (u : Value), ((List.range 13).map fun c => Value.int .i64 ((f c : Nat) : Int))[j]? = some u → (w.alloc (.cells (row13 f) t)).cell? ((⟨w.heap.size, 0, none⟩ : Addr).add j) = some u := by
  intro j u hu
  have hj : j < 13 := by
    rcases Nat.lt_or_ge j 13 with h | h
    · exact h
    · rw [List.getElem?_eq_none (by simpa using h)] at hu; simp at hu
  have hr := (row13_is (w := w.alloc (.cells (row13 f) t)) (b := w.heap.size) (t := t) (f := f) (heap_at_new rfl)).cell hj
  have : (⟨w.heap.size, 0, none⟩ : Addr).add j = ⟨w.heap.size, j, none⟩ := by
    simp [Addr.add]
    intro h; exact h.symm
  rw [this, hr, ← hu]
  simp [hj]
theorem hv_le {E : Ear} (hm : E.most ≤ 2) {q i : Nat} : hv E q i ≤ 3 := by unfold hv; have := E.row_lt q i; split <;> omega
theorem hv_inj {E : Ear} (hm : E.most ≤ 2) (h12 : E.m ≤ 12) {q q' : Nat} (hq : E.good q) (hq' : E.good q') (h : ∀ i, i < 13 → hv E q i = hv E q' i) : q = q' := by
  refine Ear.row_inj hm hq hq' (fun i hi => ?_)
  have := h i (by omega)
  unfold hv at this
  rw [if_pos hi, if_pos hi] at this
  exact this
theorem efind_old {E : Ear} (hm : E.most ≤ 2) (h12 : E.m ≤ 12) {qs : List Nat} {r p q' : Nat} (hR : PRel E.good E.succ qs r) (hq' : E.good q') (hp : p < qs.length) (h : ∀ i, i < 13 → hv E (qs.getD p 0) i = hv E q' i) : q' ∈ qs ∧ qs.idxOf q' = p := by
  have e := hv_inj hm h12 (hR.inr _ (getD_mem qs p hp)) hq' h
  have hmem : q' ∈ qs := by rw [← e]; exact getD_mem qs p hp
  refine ⟨hmem, ?_⟩
  have h1 := List.idxOf_lt_length_of_mem hmem
  have h3 : qs[p]'hp = q' := by rw [← e, List.getD_eq_getElem?_getD, List.getElem?_eq_getElem hp]; rfl
  have h4 : qs[qs.idxOf q']'h1 = q' := by simp [List.getElem_idxOf]
  have hp2 := List.pairwise_iff_getElem.1 hR.nd
  rcases Nat.lt_trichotomy (qs.idxOf q') p with h5 | h5 | h5
  · exact absurd (h4.trans h3.symm) (hp2 _ _ h1 hp h5)
  · exact h5
  · exact absurd (h3.trans h4.symm) (hp2 _ _ hp h1 h5)
theorem efind_new {E : Ear} {qs : List Nat} {q' : Nat} (h : ∀ j, j < qs.length → ∃ i, i < 13 ∧ hv E (qs.getD j 0) i ≠ hv E q' i) : q' ∉ qs := by
  intro hmem
  obtain ⟨i, hi, hne⟩ := h _ (List.idxOf_lt_length_of_mem hmem)
  rw [getD_idxOf qs q' hmem] at hne
  exact hne rfl
theorem hv_succ {s : ByteArray} {most : Nat} (hm : most ≤ 2) (q c i : Nat) : (if i ≤ s.size then nHear (noteAt s) most (hv ⟨noteAt s, s.size, most⟩ q) c i else 0) = hv ⟨noteAt s, s.size, most⟩ (Ear.succ ⟨noteAt s, s.size, most⟩ q c) i := by
  unfold hv
  by_cases h : i ≤ s.size
  · rw [if_pos h, if_pos h, Ear.row_succ hm q c h]
    exact nHear_congr (fun j hj => by rw [if_pos (by show j ≤ s.size; omega)])
  · rw [if_neg h, if_neg h]
theorem hv_begin {s : ByteArray} {most : Nat} (hm : most ≤ 2) (i : Nat) : (if i ≤ s.size then nBegin most i else 0) = hv ⟨noteAt s, s.size, most⟩ 0 i := by
  unfold hv
  by_cases h : i ≤ s.size
  · rw [if_pos h, if_pos h, Ear.row_zero hm h]
  · rw [if_neg h, if_neg h]
def hX (E : Ear) (qs : List Nat) : Nat → Nat → Nat := fun k c => hv E (qs.getD k 0) c
theorem hX_new {E : Ear} {qs : List Nat} {q i c : Nat} (hi : i < qs.length) : hX E qs i c = hX E (qs ++ [q]) i c := by unfold hX; rw [getD_app _ _ _ hi]
theorem acells_near {E : Ear} {ps : List Nat} {q k : Nat} (hk : k ≤ ps.length) : acells (E.tab (ps ++ [q])).acc k = acells (E.tab ps).acc k := by
  induction k with
  | zero => rfl
  | succ k ih =>
    simp only [acells]
    rw [ih (by omega)]
    simp only [Ear.tab]
    rw [getD_app _ _ _ (by omega)]
set_option maxRecDepth 20000 in
set_option maxHeartbeats 40000000 in
theorem widen_ok (s : ByteArray) (most : Nat) (w : World) (hs : s.size ≤ 12) (hm : most ≤ 2) (ht : IsText s) :
    Calls Try.prog 60 #[.agg #[.string s, .int .i64 most]] w
      fun e w' => Below w.heap.size w w' ∧ ∃ ps gw ga ca gn cn, PRel (Ear.good ⟨noteAt s, s.size, most⟩) (Ear.succ ⟨noteAt s, s.size, most⟩) ps (8 * ps.length) ∧ e = .returned (.pointer (some ⟨gw, 0, none⟩)) ∧ WideAt w' gw ga ca gn cn (Ear.tab ⟨noteAt s, s.size, most⟩ ps) := by
  obtain ⟨iH, hiH, hzH, hzH1, hzH2⟩ := info_parts Try.infoEar
  obtain ⟨E, HE⟩ : ∃ E : Ear, Hid (E = ⟨noteAt s, s.size, most⟩) := ⟨_, rfl⟩
  have hEm : E.most ≤ 2 := by rw [HE.out]; exact hm
  have hE12 : E.m ≤ 12 := by rw [HE.out]; exact hs
  obtain ⟨W, hW⟩ : ∃ W, W = (w.alloc (.cells #[.string s, .int .i64 most] 101)).alloc (.cells #[.slice none 0 0, .slice none 0 0] 125) := ⟨_, rfl⟩
  have BW : Below w.heap.size w W := by rw [hW]; exact ((Below.refl _ _).alloc (Nat.le_refl _) _).alloc (by simp) _
  have hWs : W.heap.size = w.heap.size + 1 + 1 := by rw [hW]; simp
  have b0 : W.heap[w.heap.size]? = some (.cells #[.string s, .int .i64 most] 101 (0, 0)) := by rw [hW]; exact heap_at_old (heap_at_new (by simp))
  have b1 : W.heap[w.heap.size + 1]? = some (.cells #[.slice none 0 0, .slice none 0 0] 125 (0, 0)) := by rw [hW]; exact heap_at_new (by simp)
  obtain ⟨x0, x1, _, _⟩ := cell_two b0
  obtain ⟨f, HF⟩ : ∃ f : Nat → Nat, Hid (f = fun i => if i ≤ s.size then nBegin most i else 0) := ⟨_, rfl⟩
  have HC := begin_ok s most W hs hm
  rw [← HF.out] at HC
  unfold row13 at HC
  go_enter Try.func60, Try.ntmps60
  go_upto_region 2 with fail
  rw [← hW]
  clear hW
  go_wp2_with fail
  refine HC.mono ?_
  clear HC
  rintro e w1 ⟨rfl, hB1⟩
  have hs1 := hB1.size
  clear x0 x1
  go_wp2_with fail
  obtain ⟨W2, hW2⟩ : ∃ W2, W2 = (w1.alloc (.cells (row13 f) 137)).alloc (.cells (row13 f) 137) := ⟨_, rfl⟩
  have P0 : WMem W (w.heap.size + 1) W2 (hX E [0]) 1 (.slice (some ⟨w1.heap.size + 1, 0, none⟩) 1 1) (.slice none 0 0) (.slice none 0 0) 0 [] [] := by
    have hb1 : w1.heap[w.heap.size + 1]? = some (.cells #[.slice none 0 0, .slice none 0 0] 125 (0, 0)) := (hB1.block _ (by omega)).trans b1
    rw [hW2]
    refine ⟨((hB1.mono (by omega)).alloc (by omega) _).alloc (by simp; omega) _, heap_at_old (heap_at_old hb1), World.ownsRow_nil _ _ _ _, World.ownsRow_nil _ _ _ _, ?_⟩
    have h := World.ownsRow_lit (base := (w.heap.size + 1) + 1) (e := 137) (size := 13) (w1.alloc (.cells (row13 f) 137)) (row13 f) 1 (by simp; omega) (by decide) rfl
    have e1 : (row13 f).toList = hcells (hX E [0]) 1 := by
      simp only [hcells, List.nil_append]
      have : (fun c => Value.int .i64 ((hX E [0] 0 c : Nat) : Int)) = fun c => Value.int .i64 ((f c : Nat) : Int) := by
        funext c
        have := hv_begin (s := s) hm c
        rw [← HE.out] at this
        rw [HF.out]
        show Value.int .i64 ((hv E 0 c : Nat) : Int) = _
        rw [← this]
      rw [this]
      rfl
    rw [e1] at h
    have hsz : (w1.alloc (.cells (row13 f) 137)).heap.size = w1.heap.size + 1 := by simp
    rw [hsz] at h
    exact h
  unfold row13 at hW2
  rw [← hW2]
  clear hW2
  have hbig : ∀ qs r, PRel E.good E.succ qs r → qs.length ≤ 67108864 := fun qs r h => Ear.bound hE12 h
  go_loopw [5, 6, 7, 8, 9, 10] (fun vs k' _ _ _ _ wr => ∃ (k : Nat) (ps : List Nat) (va vn : Value), k ≤ ps.length ∧ k' = .int .i64 k ∧ PRel E.good E.succ ps (8 * k) ∧ WMem W (w.heap.size + 1) wr (hX E ps) ps.length vs va vn k (acells (E.tab ps).acc k) (rcells (pn E.succ ps) k))
    (fun _ k' _ _ _ _ _ => 67108864 - (intOf k').toNat)
  case atStart => exact ⟨0, [0], _, _, by simp, rfl, PRel.start Ear.good_zero, P0⟩
  case round =>
    obtain ⟨k, ps, va, vn, hk, rfl, hR, hP⟩ := hrel
    clear P0
    have hbd := hbig _ _ hR
    have hlen := hR.len
    have hbw : Below w.heap.size w wr := BW.trans (hP.blw.mono (by omega))
    obtain ⟨x0, x1, _, _⟩ := cell_two ((hP.blw.block _ (by omega)).trans b0)
    obtain ⟨ap, cp, rfl, hap⟩ := ownsRow_shape hP.own2
    obtain ⟨gp, rfl, hcp⟩ := hap (by omega)
    have hszs := heap_lt hP.blk
    rename World => wo
    by_cases hlt : k < ps.length
    · have R0 := hP.round
      obtain ⟨q, HQ⟩ : ∃ x, Hid (ps.getD k 0 = x) := ⟨_, rfl⟩
      have HGQ : Hid (E.good q) := by unfold Hid; rw [← HQ.out]; exact hR.inr _ (getD_mem ps k hlt)
      have HR : Hid _ := hR
      clear hP hR hap hcp
      go_wp2_with fail
      go_loopw [5, 8, 9, 10] (fun vs c' _ _ wr => ∃ (c : Nat) (qs : List Nat), c ≤ 8 ∧ c' = .int .i64 c ∧ k < qs.length ∧ Hid (qs.getD k 0 = q) ∧ PRel E.good E.succ qs (8 * k + c) ∧ WRound W (w.heap.size + 1) wo.heap.size wr (hX E qs) qs.length vs va vn k (acells (E.tab qs).acc k) (rcells (pn E.succ qs) k) (fun c' => if c' < c then pn E.succ qs k c' else 0))
        (fun _ c' _ _ _ => 8 - (intOf c').toNat)
      case atStart => exact ⟨0, ps, by omega, rfl, hlt, HQ, HR.out, R0.rcongr (fun x _ => by simp)⟩
      case round =>
        clear R0 HR HQ hlt hbd hlen x0 x1
        obtain ⟨c, qs, hc, rfl, hlt, HQ, hR, hP⟩ := hrel
        have hbd := hbig _ _ hR
        have hlen := hR.len
        have hbW := hP.mem.blw
        have hbw : Below w.heap.size w wr := BW.trans (hbW.mono (by omega))
        obtain ⟨x0, x1, _, _⟩ := cell_two ((hbW.block _ (by omega)).trans b0)
        obtain ⟨ap, cp, rfl, hap⟩ := ownsRow_shape hP.mem.own2
        obtain ⟨gq, rfl, hcp⟩ := hap (by omega)
        have hszs := heap_lt hP.mem.blk
        have hce : ∀ k i, k < qs.length → i < 13 → wr.cell? ⟨gq, k * 13 + i, none⟩ = some (.int .i64 ((hX E qs k i : Nat) : Int)) := fun k i hk hi => (hcp (k * 13 + i) (by omega)).trans (hcells_at _ _ _ _ hk hi)
        by_cases hl8 : c < 8
        · have hck : ∀ i, i < 13 → wr.cell? ⟨gq, k * 13 + i, none⟩ = some (.int .i64 ((hv E q i : Nat) : Int)) := fun i hi => by rw [hce k i hlt hi]; unfold hX; rw [HQ.out]
          have c0 := hck 0 (by omega)
          have c1 := hck 1 (by omega)
          have c2 := hck 2 (by omega)
          have c3 := hck 3 (by omega)
          have c4 := hck 4 (by omega)
          have c5 := hck 5 (by omega)
          have c6 := hck 6 (by omega)
          have c7 := hck 7 (by omega)
          have c8 := hck 8 (by omega)
          have c9 := hck 9 (by omega)
          have c10 := hck 10 (by omega)
          have c11 := hck 11 (by omega)
          have c12 := hck 12 (by omega)
          simp only [Nat.add_zero] at c0
          have HC := fun w => hear_ok s most c (hv E q) w hs hm ht (fun i _ => hv_le hEm)
          obtain ⟨f2, HF2⟩ : ∃ f : Nat → Nat, Hid (f = hv E (E.succ q c)) := ⟨_, rfl⟩
          have hf2 : (fun i => if i ≤ s.size then nHear (noteAt s) most (hv E q) c i else 0) = f2 := by
            rw [HF2.out]
            funext i
            rw [HE.out]
            exact hv_succ hm q c i
          rw [hf2] at HC
          unfold row13 at HC
          clear hf2 hck
          have HCE : Hid _ := hce
          have HP : Hid (WRound W (w.heap.size + 1) wo.heap.size wr (hX E qs) qs.length (.slice (some ⟨gq, 0, none⟩) qs.length cp) va vn k (acells (E.tab qs).acc k) (rcells (pn E.succ qs) k) (fun c' => if c' < c then pn E.succ qs k c' else 0)) := hP
          have HR : Hid (PRel E.good E.succ qs (8 * k + c)) := hR
          have hgl : gq < wr.heap.size := lt_of_cell c0
          have n1 : ¬ gq = wr.heap.size := by omega
          have n2 : ¬ w.heap.size = wr.heap.size := by omega
          have n3 : ¬ wr.heap.size = gq := by omega
          have n4 : ¬ wr.heap.size = w.heap.size := by omega
          have HS : ∀ w', Below wr.heap.size wr w' → w'.cell? ⟨w.heap.size, 0, none⟩ = some (.string s) ∧ w'.cell? ⟨w.heap.size, 1, none⟩ = some (.int .i64 most) ∧ w'.cell? ⟨gq, k * 13, none⟩ = some (.int .i64 ((hv E q 0 : Nat) : Int)) ∧ w'.cell? ⟨gq, k * 13 + 1, none⟩ = some (.int .i64 ((hv E q 1 : Nat) : Int)) ∧ w'.cell? ⟨gq, k * 13 + 2, none⟩ = some (.int .i64 ((hv E q 2 : Nat) : Int)) ∧ w'.cell? ⟨gq, k * 13 + 3, none⟩ = some (.int .i64 ((hv E q 3 : Nat) : Int)) ∧ w'.cell? ⟨gq, k * 13 + 4, none⟩ = some (.int .i64 ((hv E q 4 : Nat) : Int)) ∧ w'.cell? ⟨gq, k * 13 + 5, none⟩ = some (.int .i64 ((hv E q 5 : Nat) : Int)) ∧ w'.cell? ⟨gq, k * 13 + 6, none⟩ = some (.int .i64 ((hv E q 6 : Nat) : Int)) ∧ w'.cell? ⟨gq, k * 13 + 7, none⟩ = some (.int .i64 ((hv E q 7 : Nat) : Int)) ∧ w'.cell? ⟨gq, k * 13 + 8, none⟩ = some (.int .i64 ((hv E q 8 : Nat) : Int)) ∧ w'.cell? ⟨gq, k * 13 + 9, none⟩ = some (.int .i64 ((hv E q 9 : Nat) : Int)) ∧ w'.cell? ⟨gq, k * 13 + 10, none⟩ = some (.int .i64 ((hv E q 10 : Nat) : Int)) ∧ w'.cell? ⟨gq, k * 13 + 11, none⟩ = some (.int .i64 ((hv E q 11 : Nat) : Int)) ∧ w'.cell? ⟨gq, k * 13 + 12, none⟩ = some (.int .i64 ((hv E q 12 : Nat) : Int)) := fun w' hb => ⟨(hb.cell (p := ⟨w.heap.size, 0, none⟩) (by simp; omega)).trans x0, (hb.cell (p := ⟨w.heap.size, 1, none⟩) (by simp; omega)).trans x1, (hb.cell (p := ⟨gq, _, none⟩) hgl).trans c0, (hb.cell (p := ⟨gq, _, none⟩) hgl).trans c1, (hb.cell (p := ⟨gq, _, none⟩) hgl).trans c2, (hb.cell (p := ⟨gq, _, none⟩) hgl).trans c3, (hb.cell (p := ⟨gq, _, none⟩) hgl).trans c4, (hb.cell (p := ⟨gq, _, none⟩) hgl).trans c5, (hb.cell (p := ⟨gq, _, none⟩) hgl).trans c6, (hb.cell (p := ⟨gq, _, none⟩) hgl).trans c7, (hb.cell (p := ⟨gq, _, none⟩) hgl).trans c8, (hb.cell (p := ⟨gq, _, none⟩) hgl).trans c9, (hb.cell (p := ⟨gq, _, none⟩) hgl).trans c10, (hb.cell (p := ⟨gq, _, none⟩) hgl).trans c11, (hb.cell (p := ⟨gq, _, none⟩) hgl).trans c12⟩
          clear hP hR hap hcp hce
          go_upto_region 11 with fail
          go_cut [9] (fun p9 wc => ∃ g9, p9 = .pointer (some ⟨g9, 0, none⟩) ∧ Below wr.heap.size wr wc ∧ wr.heap.size ≤ g9 ∧ wc.rowIs g9 137 13 (fun i => .int .i64 ((f2 i : Nat) : Int)))
          case first =>
            refine wp_region_noPanic ?_
            refine wp_region_held_drew (S := (fun w' => w'.cell? ⟨w.heap.size, 0, none⟩ = some (.string s) ∧ w'.cell? ⟨w.heap.size, 1, none⟩ = some (.int .i64 most) ∧ w'.cell? ⟨gq, k * 13, none⟩ = some (.int .i64 ((hv E q 0 : Nat) : Int)) ∧ w'.cell? ⟨gq, k * 13 + 1, none⟩ = some (.int .i64 ((hv E q 1 : Nat) : Int)) ∧ w'.cell? ⟨gq, k * 13 + 2, none⟩ = some (.int .i64 ((hv E q 2 : Nat) : Int)) ∧ w'.cell? ⟨gq, k * 13 + 3, none⟩ = some (.int .i64 ((hv E q 3 : Nat) : Int)) ∧ w'.cell? ⟨gq, k * 13 + 4, none⟩ = some (.int .i64 ((hv E q 4 : Nat) : Int)) ∧ w'.cell? ⟨gq, k * 13 + 5, none⟩ = some (.int .i64 ((hv E q 5 : Nat) : Int)) ∧ w'.cell? ⟨gq, k * 13 + 6, none⟩ = some (.int .i64 ((hv E q 6 : Nat) : Int)) ∧ w'.cell? ⟨gq, k * 13 + 7, none⟩ = some (.int .i64 ((hv E q 7 : Nat) : Int)) ∧ w'.cell? ⟨gq, k * 13 + 8, none⟩ = some (.int .i64 ((hv E q 8 : Nat) : Int)) ∧ w'.cell? ⟨gq, k * 13 + 9, none⟩ = some (.int .i64 ((hv E q 9 : Nat) : Int)) ∧ w'.cell? ⟨gq, k * 13 + 10, none⟩ = some (.int .i64 ((hv E q 10 : Nat) : Int)) ∧ w'.cell? ⟨gq, k * 13 + 11, none⟩ = some (.int .i64 ((hv E q 11 : Nat) : Int)) ∧ w'.cell? ⟨gq, k * 13 + 12, none⟩ = some (.int .i64 ((hv E q 12 : Nat) : Int)))) (by kernel_rfl) ?_ (fun hHeld0 => ?_)
            · (try dsimp only); go_keep
            refine wpAnyH_take (i := 0) (v := ?_) (by simp only [List.getElem?_toArray, List.getElem?_cons_zero]; exact rfl) (by kernel_rfl) (by kernel_rfl) (by kernel_rfl) (fun _ _ _ h => h) (Or.inl ⟨by rfl, ?_⟩) (by assumption) ?_
            rotate_left 1
            · intro wq hSq; (try dsimp only at hSq); go_simp; try with_reducible rfl
            try simp only [Act.put, List.setIfInBounds_toArray, List.set_cons_zero, List.set_cons_succ]
            refine wpAnyH_take (i := 1) (v := ?_) (by simp only [List.getElem?_toArray, List.getElem?_cons_succ, List.getElem?_cons_zero]; exact rfl) (by kernel_rfl) (by kernel_rfl) (by kernel_rfl) (fun _ _ _ h => h) (Or.inl ⟨by rfl, ?_⟩) (by assumption) ?_
            rotate_left 1
            · intro wq hSq; (try dsimp only at hSq); go_simp; try with_reducible rfl
            try simp only [Act.put, List.setIfInBounds_toArray, List.set_cons_zero, List.set_cons_succ]
            refine wpAnyH_take (i := 2) (v := ?_) (by simp only [List.getElem?_toArray, List.getElem?_cons_succ, List.getElem?_cons_zero]; exact rfl) (by kernel_rfl) (by kernel_rfl) (by kernel_rfl) (fun _ _ _ h => h) (Or.inl ⟨by rfl, ?_⟩) (by assumption) ?_
            rotate_left 1
            · intro wq hSq; (try dsimp only at hSq); go_simp; try with_reducible rfl
            try simp only [Act.put, List.setIfInBounds_toArray, List.set_cons_zero, List.set_cons_succ]
            refine wpAnyH_take (i := 3) (v := ?_) (by simp only [List.getElem?_toArray, List.getElem?_cons_succ, List.getElem?_cons_zero]; exact rfl) (by kernel_rfl) (by kernel_rfl) (by kernel_rfl) (fun _ _ _ h => h) (Or.inl ⟨by rfl, ?_⟩) (by assumption) ?_
            rotate_left 1
            · intro wq hSq; (try dsimp only at hSq); go_simp; try with_reducible rfl
            try simp only [Act.put, List.setIfInBounds_toArray, List.set_cons_zero, List.set_cons_succ]
            refine wpAnyH_take (i := 4) (v := ?_) (by simp only [List.getElem?_toArray, List.getElem?_cons_succ, List.getElem?_cons_zero]; exact rfl) (by kernel_rfl) (by kernel_rfl) (by kernel_rfl) (fun _ _ _ h => h) (Or.inl ⟨by rfl, ?_⟩) (by assumption) ?_
            rotate_left 1
            · intro wq hSq; (try dsimp only at hSq); go_simp; try with_reducible rfl
            try simp only [Act.put, List.setIfInBounds_toArray, List.set_cons_zero, List.set_cons_succ]
            refine wpAnyH_take (i := 5) (v := ?_) (by simp only [List.getElem?_toArray, List.getElem?_cons_succ, List.getElem?_cons_zero]; exact rfl) (by kernel_rfl) (by kernel_rfl) (by kernel_rfl) (fun _ _ _ h => h) (Or.inl ⟨by rfl, ?_⟩) (by assumption) ?_
            rotate_left 1
            · intro wq hSq; (try dsimp only at hSq); go_simp; try with_reducible rfl
            try simp only [Act.put, List.setIfInBounds_toArray, List.set_cons_zero, List.set_cons_succ]
            refine wpAnyH_ready (rs := [6, 7]) (by kernel_rfl) (by simp) ?_
            refine AllReadyH.cons (by simp only [List.getElem?_toArray, List.getElem?_cons_succ, List.getElem?_cons_zero]; exact rfl) (fun K hK => ?_) ?_
            · go_simp
              refine (HC _).mono ?_
              rintro e w3 ⟨rfl, hB3⟩
              have hBx : Below wr.heap.size wr w3 := by first | exact ((Below.refl wr.heap.size wr).drew).trans hB3 | exact (((Below.refl wr.heap.size wr).drew).alloc (Nat.le_refl _) _).trans (hB3.mono (by simp))
              obtain ⟨k0, k1, k2, k3, k4, k5, k6, k7, k8, k9, k10, k11, k12, k13, k14⟩ := HS w3 hBx
              try obtain ⟨d0, d1, d2, d3, d4, d5, d6, d7, d8, d9, d10, d11, d12⟩ := rowIs13 ((row13_is (f := fun _ => 0) (w := (wr.alloc (.cells (row13 (fun _ => 0)) 137)).drew) (b := wr.heap.size) (t := 137) (heap_at_new rfl)).of_block (hB3.block _ (by simp)))
              try obtain ⟨e0, e1, e2, e3, e4, e5, e6, e7, e8, e9, e10, e11, e12⟩ := rowIs13f ((row13_is (f := fun _ => 0) (w := (wr.alloc (.cells (row13 (fun _ => 0)) 137)).drew) (b := wr.heap.size) (t := 137) (heap_at_new rfl)).of_block (hB3.block _ (by simp)))
              have HBX : Hid _ := hBx
              have HB3 : Hid _ := hB3
              clear hBx hB3
              try dsimp only
              refine hK.out _ _ ?_ (fun hHeld1 => ?_)
              · (try dsimp only); go_keep
              clear hK K hHeld0
              try simp only [Act.put, List.setIfInBounds_toArray, List.set_cons_zero, List.set_cons_succ]
              refine wpAnyH_ready (rs := [7]) (by kernel_rfl) (by simp) ?_
              refine AllReadyH.cons (by simp only [List.getElem?_toArray, List.getElem?_cons_succ, List.getElem?_cons_zero]; exact rfl) (fun K hK => ?_) ?_
              · go_simp
                refine hK.out _ _ ?_ (fun hHeld2 => ?_)
                · (try dsimp only); go_keep
                clear hK K hHeld1
                try simp only [Act.put, List.setIfInBounds_toArray, List.set_cons_zero, List.set_cons_succ]
                refine wpAnyH_ready (rs := [8]) (by kernel_rfl) (by simp) ?_
                refine AllReadyH.cons (by simp only [List.getElem?_toArray, List.getElem?_cons_succ, List.getElem?_cons_zero]; exact rfl) (fun K hK => ?_) ?_
                · go_simp
                  refine hK.out _ _ ?_ (fun hHeld3 => ?_)
                  · (try dsimp only); go_keep
                  clear hK K hHeld2
                  try simp only [Act.put, List.setIfInBounds_toArray, List.set_cons_zero, List.set_cons_succ]
                  refine wpAnyH_done (by kernel_rfl) ?_ _
                  refine NoPanic.normal ?_
                  go_wp2_with fail
                  go_meet
                  have hq := row13_is (w := w3.alloc (.cells (row13 f2) 137)) (b := w3.heap.size) (t := 137) (f := f2) (heap_at_new rfl)
                  have hp := HBX.out.alloc (by have := HBX.out.size; omega) (.cells (row13 f2) 137)
                  have hz := HBX.out.size
                  unfold row13 at hq hp
                  exact ⟨w3.heap.size, rfl, hp, hz, hq⟩
                exact AllReadyH.nil
              exact AllReadyH.nil
            refine AllReadyH.cons (by simp only [List.getElem?_toArray, List.getElem?_cons_succ, List.getElem?_cons_zero]; exact rfl) (fun K hK => ?_) ?_
            · go_simp
              refine hK.out _ _ ?_ (fun hHeld4 => ?_)
              · (try dsimp only); go_keep
              clear hK K hHeld0
              try simp only [Act.put, List.setIfInBounds_toArray, List.set_cons_zero, List.set_cons_succ]
              refine wpAnyH_ready (rs := [6]) (by kernel_rfl) (by simp) ?_
              refine AllReadyH.cons (by simp only [List.getElem?_toArray, List.getElem?_cons_succ, List.getElem?_cons_zero]; exact rfl) (fun K hK => ?_) ?_
              · go_simp
                refine (HC _).mono ?_
                rintro e w3 ⟨rfl, hB3⟩
                have hBx : Below wr.heap.size wr w3 := by first | exact ((Below.refl wr.heap.size wr).drew).trans hB3 | exact (((Below.refl wr.heap.size wr).drew).alloc (Nat.le_refl _) _).trans (hB3.mono (by simp))
                obtain ⟨k0, k1, k2, k3, k4, k5, k6, k7, k8, k9, k10, k11, k12, k13, k14⟩ := HS w3 hBx
                try obtain ⟨d0, d1, d2, d3, d4, d5, d6, d7, d8, d9, d10, d11, d12⟩ := rowIs13 ((row13_is (f := fun _ => 0) (w := (wr.alloc (.cells (row13 (fun _ => 0)) 137)).drew) (b := wr.heap.size) (t := 137) (heap_at_new rfl)).of_block (hB3.block _ (by simp)))
                try obtain ⟨e0, e1, e2, e3, e4, e5, e6, e7, e8, e9, e10, e11, e12⟩ := rowIs13f ((row13_is (f := fun _ => 0) (w := (wr.alloc (.cells (row13 (fun _ => 0)) 137)).drew) (b := wr.heap.size) (t := 137) (heap_at_new rfl)).of_block (hB3.block _ (by simp)))
                have HBX : Hid _ := hBx
                have HB3 : Hid _ := hB3
                clear hBx hB3
                try dsimp only
                refine hK.out _ _ ?_ (fun hHeld5 => ?_)
                · (try dsimp only); go_keep
                clear hK K hHeld4
                try simp only [Act.put, List.setIfInBounds_toArray, List.set_cons_zero, List.set_cons_succ]
                refine wpAnyH_ready (rs := [8]) (by kernel_rfl) (by simp) ?_
                refine AllReadyH.cons (by simp only [List.getElem?_toArray, List.getElem?_cons_succ, List.getElem?_cons_zero]; exact rfl) (fun K hK => ?_) ?_
                · go_simp
                  refine hK.out _ _ ?_ (fun hHeld6 => ?_)
                  · (try dsimp only); go_keep
                  clear hK K hHeld5
                  try simp only [Act.put, List.setIfInBounds_toArray, List.set_cons_zero, List.set_cons_succ]
                  refine wpAnyH_done (by kernel_rfl) ?_ _
                  refine NoPanic.normal ?_
                  go_wp2_with fail
                  go_meet
                  have hq := put13_row f2 ((row13_is (f := fun _ => 0) (w := (wr.alloc (.cells (row13 (fun _ => 0)) 137)).drew) (b := wr.heap.size) (t := 137) (heap_at_new rfl)).of_block (HB3.out.block _ (by simp)))
                  have hp := put13_below (b := wr.heap.size) f2 HBX.out (Nat.le_refl _)
                  unfold put13 at hq hp
                  exact ⟨wr.heap.size, rfl, hp, Nat.le_refl _, hq⟩
                exact AllReadyH.nil
              exact AllReadyH.nil
            exact AllReadyH.nil
          case rest =>
            obtain ⟨g9, rfl, hB9, hg9, hr9⟩ := hcut
            have hs9 := hB9.size
            have hP9 := HP.out.below hB9
            have HCE9 : ∀ k i, k < qs.length → i < 13 → wc.cell? ⟨gq, k * 13 + i, none⟩ = some (.int .i64 ((hX E qs k i : Nat) : Int)) := fun k i hk hi => (hB9.cell (p := ⟨gq, k * 13 + i, none⟩) hgl).trans (HCE.out k i hk hi)
            have HC2 := efind_ok (some ⟨gq, 0, none⟩) gq qs.length cp (hX E qs) f2 wc (by omega) (fun _ => rfl) HCE9
            obtain ⟨a0, a1, a2, a3, a4, a5, a6, a7, a8, a9, a10, a11, a12⟩ := rowIs13 hr9
            have HR9 : Hid (wc.rowIs g9 137 13 (fun i => .int .i64 ((f2 i : Nat) : Int))) := hr9
            unfold row13 at HC2
            clear HS HC HCE9 c0 c1 c2 c3 c4 c5 c6 c7 c8 c9 c10 c11 c12 x0 x1 n1 n2 n3 n4 HP HCE hbW hbw hr9
            have HP9 : Hid (WRound W (w.heap.size + 1) wo.heap.size wc (hX E qs) qs.length (.slice (some ⟨gq, 0, none⟩) qs.length cp) va vn k (acells (E.tab qs).acc k) (rcells (pn E.succ qs) k) (fun c' => if c' < c then pn E.succ qs k c' else 0)) := hP9
            have hgsz := hP9.mem.own2.lt gq rfl
            clear hP9
            go_wp2_with fail
            refine HC2.mono ?_
            clear HC2 a0 a1 a2 a3 a4 a5 a6 a7 a8 a9 a10 a11 a12
            rintro e w5 ⟨hB5, p, rfl, hpn, hyes, hno⟩
            have hs5 := hB5.size
            have hP5 := HP9.out.below hB5
            have HP5 : Hid (WRound W (w.heap.size + 1) wo.heap.size w5 (hX E qs) qs.length (.slice (some ⟨gq, 0, none⟩) qs.length cp) va vn k (acells (E.tab qs).acc k) (rcells (pn E.succ qs) k) (fun c' => if c' < c then pn E.succ qs k c' else 0)) := hP5
            have HR5 : Hid (w5.rowIs g9 137 13 (fun i => .int .i64 ((f2 i : Nat) : Int))) := HR9.out.of_block (hB5.block _ HR9.out.lt)
            have r0 := hP5.rw.cell hl8
            have r1 := hP5.rw.frozen c
            have hHl := hP5.rw.lt
            simp only [Nat.lt_irrefl, if_false] at r0
            have HSQ : Hid (E.succ (qs.getD ((8 * k + c) / 8) 0) ((8 * k + c) % 8) = E.succ q c) := by
              unfold Hid; rw [show (8 * k + c) / 8 = k by omega, show (8 * k + c) % 8 = c by omega, HQ.out]
            have HGS : Hid (E.good (E.succ q c)) := Ear.succ_good hEm q c
            clear hP5 HP9 HR9 hB5 hB9
            by_cases hlp : p < qs.length
            · have hold := efind_old hEm hE12 HR.out HGS.out hlp (fun i hi => by have := hyes hlp i hi; rw [HF2.out] at this; exact this)
              have hpb : ((p : Int) == (qs.length : Int)) = false := by rw [beq_eq_false_iff_ne]; omega
              have HO : Hid _ := hold
              clear hold hyes hno
              go_wp2_with fail
              go_roundw
              case rel =>
                have hpnc : pn E.succ qs k c = p := by
                  unfold pn; rw [HQ.out]; exact HO.out.2
                have hn := (HP5.out.put c p).rcongr (r' := fun c' => if c' < c + 1 then pn E.succ qs k c' else 0) (fun x _ => by
                  by_cases e : x = c
                  · subst e; simp [hpnc]
                  · by_cases h' : x < c
                    · simp only [e, h', if_false, if_true]; rw [if_pos (by omega)]
                    · simp only [e, h', if_false]; rw [if_neg (by omega)])
                exact ⟨c + 1, qs, by omega, by go_num, hlt, HQ, HR.out.old (by omega) (by rw [HSQ.out]; exact HO.out.1), hn⟩
              case measure => simp [intOf]; omega
            · have hpe : p = qs.length := by omega
              subst hpe
              have hnew := efind_new (E := E) (qs := qs) (q' := E.succ q c) (fun j hj => by
                obtain ⟨i, hi, hne⟩ := hno j hj
                exact ⟨i, hi, by rw [HF2.out] at hne; exact hne⟩)
              have HN : Hid _ := hnew
              obtain ⟨a0, a1, a2, a3, a4, a5, a6, a7, a8, a9, a10, a11, a12⟩ := rowIs13 HR5.out
              clear hnew hno hyes
              have HPa : Hid (WRound W (w.heap.size + 1) wo.heap.size (w5.alloc (.cells (row13 f2) 137)) (hX E (qs ++ [E.succ q c])) qs.length (.slice (some ⟨gq, 0, none⟩) qs.length cp) va vn k (acells (E.tab qs).acc k) (rcells (pn E.succ qs) k) (fun c' => if c' < c then pn E.succ qs k c' else 0)) := (HP5.out.below ((Below.refl _ _).alloc (Nat.le_refl _) _)).xcongr (fun i c hi _ => hX_new hi)
              have HNA : Hid ((w5.alloc (.cells (row13 f2) 137)).ownsRow ((w.heap.size + 1) + 1) 137 13 (.slice (some ⟨gq, 0, none⟩) qs.length cp) qs.length (hcells (hX E (qs ++ [E.succ q c])) qs.length)) := HPa.out.mem.own2
              have HCN : Hid _ := cell13_new w5 f2 137
              have HG : Hid (∀ g cap w2, w2.ownsRow ((w.heap.size + 1) + 1) 137 13 (.slice (some ⟨g, 0, none⟩) (qs.length + 1) cap) (qs.length + 1) (hcells (hX E (qs ++ [E.succ q c])) qs.length ++ ((List.range 13).map fun c => Value.int .i64 ((f2 c : Nat) : Int))) →
                  (w5.alloc (.cells (row13 f2) 137)).grownBy w2 (Value.slice (some ⟨gq, 0, none⟩) qs.length cp).ownBlock →
                  w2.cell? ⟨wo.heap.size, c, none⟩ = some (.int .i64 0) ∧ w2.frozen? ⟨wo.heap.size, c, none⟩ = false ∧ Hid (WRound W (w.heap.size + 1) wo.heap.size w2 (hX E (qs ++ [E.succ q c])) (qs.length + 1) (.slice (some ⟨g, 0, none⟩) (qs.length + 1) cap) va vn k (acells (E.tab qs).acc k) (rcells (pn E.succ qs) k) (fun c' => if c' < c then pn E.succ qs k c' else 0))) := by
                intro g cap w2 ho hg
                have e1 : ((List.range 13).map fun c => Value.int .i64 ((f2 c : Nat) : Int)) = (List.range 13).map fun x => Value.int .i64 ((hX E (qs ++ [E.succ q c]) qs.length x : Nat) : Int) := by
                  rw [HF2.out]
                  unfold hX
                  simp [List.getD_eq_getElem?_getD]
                rw [e1] at ho
                have hw2 := HPa.out.grown ho hg
                refine ⟨?_, hw2.rw.frozen c, hw2⟩
                have := hw2.rw.cell hl8
                simpa using this
              clear HPa
              unfold row13 at HNA HCN HG
              go_wp2_with (at_builtin; refine wpList_append_fresh _ rfl _ _ 139 rfl ((w.heap.size + 1) + 1) 137 iH (.agg (row13 (fun _ => 0))) 13 104 Try.underlying139 hiH hzH hzH1 hzH2 rfl (by decide) _ qs.length (hcells (hX E (qs ++ [E.succ q c])) qs.length) rfl HNA.out ⟨w5.heap.size, 0, none⟩ 1 1 ((List.range 13).map fun c => Value.int .i64 ((f2 c : Nat) : Int)) rfl rfl HCN.out (by intro u hu; simp only [List.mem_map] at hu; obtain ⟨_, _, rfl⟩ := hu; rfl) (by decide) (by unfold maxLen; omega) (by omega) (by simp; omega) ?_; intro g2 cap2 w2 hown hgr hfr; obtain ⟨f0, f1, HNW⟩ := HG.out g2 cap2 w2 hown hgr; clear hown hgr hfr)
              go_roundw
              case rel =>
                have hnew := HR.out.new (by omega) (by rw [HSQ.out]; exact HN.out) (by rw [HSQ.out]; exact HGS.out)
                rw [HSQ.out] at hnew
                have hpnew : pn E.succ (qs ++ [E.succ q c]) k c = qs.length := by
                  simp only [pn]
                  rw [getD_app _ _ _ hlt, HQ.out, List.idxOf_append, if_neg HN.out]; simp
                have hn := (HNW.out.put c qs.length).rcongr (r' := fun c' => if c' < c + 1 then pn E.succ (qs ++ [E.succ q c]) k c' else 0) (fun x hx => by
                  by_cases e : x = c
                  · subst e; simp [hpnew]
                  · by_cases h' : x < c
                    · simp only [e, h', if_false, if_true]; rw [if_pos (by omega), pn_new HR.out k x hx (by omega)]
                    · simp only [e, h', if_false]; rw [if_neg (by omega)])
                rw [← acells_near (E := E) (q := E.succ q c) (by omega), ← rcells_congr (X := pn E.succ (qs ++ [E.succ q c])) (fun x c' hx hc' => pn_new HR.out x c' hc' (by omega))] at hn
                exact ⟨c + 1, (qs ++ [E.succ q c]), by omega, by go_num, by simp; omega, by unfold Hid; rw [getD_app _ _ _ hlt]; exact HQ.out, hnew, by simpa using hn⟩
              case measure => simp [intOf]; omega
        · have hc8 : c = 8 := by omega
          subst hc8
          clear hap hcp
          obtain ⟨tv, HTV0⟩ : ∃ x, Hid (hv E q s.size = x) := ⟨_, rfl⟩
          have HTV : Hid (decide (tv ≤ most) = decide (E.row q E.m ≤ E.most)) := by
            unfold Hid
            rw [← HTV0.out]
            have hEs : E.m = s.size := by rw [HE.out]
            have hEo : E.most = most := by rw [HE.out]
            unfold hv
            rw [← hEs, if_pos (Nat.le_refl _), hEo]
          have y0 := hce k s.size hlt (by omega)
          rw [show hX E qs k s.size = tv by unfold hX; rw [HQ.out]; exact HTV0.out] at y0
          have hrw := hP.rw
          have r0 := hrw.cell (i := 0) (by omega)
          have r1 := hrw.cell (i := 1) (by omega)
          have r2 := hrw.cell (i := 2) (by omega)
          have r3 := hrw.cell (i := 3) (by omega)
          have r4 := hrw.cell (i := 4) (by omega)
          have r5 := hrw.cell (i := 5) (by omega)
          have r6 := hrw.cell (i := 6) (by omega)
          have r7 := hrw.cell (i := 7) (by omega)
          simp only [show (0 : Nat) < 8 from by decide, show (1 : Nat) < 8 from by decide, show (2 : Nat) < 8 from by decide, show (3 : Nat) < 8 from by decide, show (4 : Nat) < 8 from by decide, show (5 : Nat) < 8 from by decide, show (6 : Nat) < 8 from by decide, show (7 : Nat) < 8 from by decide, if_true] at r0 r1 r2 r3 r4 r5 r6 r7
          have hgl := (hP.mem.own2.lt gq rfl)
          have hHl := hrw.lt
          have HS : Hid (∀ w', Touch (fun b => b = (w.heap.size + 1) ∨ va.ownBlock = some b ∨ vn.ownBlock = some b) wr.drew w' → w'.cell? ⟨w.heap.size, 0, none⟩ = some (.string s) ∧ w'.cell? ⟨w.heap.size, 1, none⟩ = some (.int .i64 most) ∧ w'.cell? ⟨gq, k * 13 + s.size, none⟩ = some (.int .i64 (tv : Int)) ∧ w'.cell? ⟨wo.heap.size, 0, none⟩ = some (.int .i64 ((pn E.succ qs k 0 : Nat) : Int)) ∧ w'.cell? ⟨wo.heap.size, 1, none⟩ = some (.int .i64 ((pn E.succ qs k 1 : Nat) : Int)) ∧ w'.cell? ⟨wo.heap.size, 2, none⟩ = some (.int .i64 ((pn E.succ qs k 2 : Nat) : Int)) ∧ w'.cell? ⟨wo.heap.size, 3, none⟩ = some (.int .i64 ((pn E.succ qs k 3 : Nat) : Int)) ∧ w'.cell? ⟨wo.heap.size, 4, none⟩ = some (.int .i64 ((pn E.succ qs k 4 : Nat) : Int)) ∧ w'.cell? ⟨wo.heap.size, 5, none⟩ = some (.int .i64 ((pn E.succ qs k 5 : Nat) : Int)) ∧ w'.cell? ⟨wo.heap.size, 6, none⟩ = some (.int .i64 ((pn E.succ qs k 6 : Nat) : Int)) ∧ w'.cell? ⟨wo.heap.size, 7, none⟩ = some (.int .i64 ((pn E.succ qs k 7 : Nat) : Int))) := by
            intro w' ht
            have hc : ∀ k o : Nat, k < wr.heap.size → ¬ (k = (w.heap.size + 1) ∨ va.ownBlock = some k ∨ vn.ownBlock = some k) → w'.cell? ⟨k, o, none⟩ = wr.cell? ⟨k, o, none⟩ := fun k o hk hn => World.cell?_of_block (a := ⟨k, o, none⟩) (ht.block k hk hn)
            have na : ¬ (w.heap.size = (w.heap.size + 1) ∨ va.ownBlock = some w.heap.size ∨ vn.ownBlock = some w.heap.size) := by
              rintro (e | e | e)
              · omega
              · have := (hP.mem.own0.lt _ e).1; omega
              · have := (hP.mem.own1.lt _ e).1; omega
            have nb : ¬ (gq = (w.heap.size + 1) ∨ va.ownBlock = some gq ∨ vn.ownBlock = some gq) := by
              rintro (e | e | e)
              · have := hgl.1; omega
              · exact ear_apart hP.mem.own2 hP.mem.own0 (by decide) gq rfl e
              · exact ear_apart hP.mem.own2 hP.mem.own1 (by decide) gq rfl e
            have nc : ¬ (wo.heap.size = (w.heap.size + 1) ∨ va.ownBlock = some wo.heap.size ∨ vn.ownBlock = some wo.heap.size) := by
              rintro (e | e | e)
              · have := hP.lo; omega
              · exact ear_blk hP.mem.own0 hrw (by decide) _ e rfl
              · exact hP.dn _ e rfl
            exact ⟨(hc _ _ (by omega) na).trans x0, (hc _ _ (by omega) na).trans x1, (hc _ _ hgl.2 nb).trans y0, (hc _ _ hHl nc).trans r0, (hc _ _ hHl nc).trans r1, (hc _ _ hHl nc).trans r2, (hc _ _ hHl nc).trans r3, (hc _ _ hHl nc).trans r4, (hc _ _ hHl nc).trans r5, (hc _ _ hHl nc).trans r6, (hc _ _ hHl nc).trans r7⟩
          have HP3 : Hid (WRound W (w.heap.size + 1) wo.heap.size wr.drew (hX E qs) qs.length (.slice (some ⟨gq, 0, none⟩) qs.length cp) va vn k (acells (E.tab qs).acc k) (rcells (pn E.succ qs) k) (fun c' => if c' < 8 then pn E.succ qs k c' else 0)) := hP.below ((Below.refl _ _).drew)
          have HA := add_ok (w.heap.size + 1) ((w.heap.size + 1) + 1) va vn k _ _ (decide (tv ≤ most)) (pn E.succ qs k) wr.drew HP3.out.mem.blk HP3.out.mem.own0 HP3.out.mem.own1 (by omega) (by show (w.heap.size + 1) + 1 ≤ wr.heap.size; omega) (by omega)
          unfold row8 at HA
          have HR : Hid (PRel E.good E.succ qs (8 * k + 8)) := hR
          clear hP hR hce hrw hbW hbw HTV0
          have hs13 : (s.size : Int) < 13 := by omega
          go_upto_region 16 with fail
          refine wp_region_noPanic ?_
          refine wp_region_held_drew (S := (fun w' => w'.cell? ⟨w.heap.size, 0, none⟩ = some (.string s) ∧ w'.cell? ⟨w.heap.size, 1, none⟩ = some (.int .i64 most) ∧ w'.cell? ⟨gq, k * 13 + s.size, none⟩ = some (.int .i64 (tv : Int)) ∧ w'.cell? ⟨wo.heap.size, 0, none⟩ = some (.int .i64 ((pn E.succ qs k 0 : Nat) : Int)) ∧ w'.cell? ⟨wo.heap.size, 1, none⟩ = some (.int .i64 ((pn E.succ qs k 1 : Nat) : Int)) ∧ w'.cell? ⟨wo.heap.size, 2, none⟩ = some (.int .i64 ((pn E.succ qs k 2 : Nat) : Int)) ∧ w'.cell? ⟨wo.heap.size, 3, none⟩ = some (.int .i64 ((pn E.succ qs k 3 : Nat) : Int)) ∧ w'.cell? ⟨wo.heap.size, 4, none⟩ = some (.int .i64 ((pn E.succ qs k 4 : Nat) : Int)) ∧ w'.cell? ⟨wo.heap.size, 5, none⟩ = some (.int .i64 ((pn E.succ qs k 5 : Nat) : Int)) ∧ w'.cell? ⟨wo.heap.size, 6, none⟩ = some (.int .i64 ((pn E.succ qs k 6 : Nat) : Int)) ∧ w'.cell? ⟨wo.heap.size, 7, none⟩ = some (.int .i64 ((pn E.succ qs k 7 : Nat) : Int)))) (by kernel_rfl) ?_ (fun hHeld0 => ?_)
          · (try dsimp only); go_keep
          refine wpAnyH_take (i := 0) (v := ?_) (by simp only [List.getElem?_toArray, List.getElem?_cons_zero]; exact rfl) (by kernel_rfl) (by kernel_rfl) (by kernel_rfl) (fun _ _ _ h => h) (Or.inl ⟨by rfl, ?_⟩) (by assumption) ?_
          rotate_left 1
          · intro wq hSq; (try dsimp only at hSq); go_simp; try with_reducible rfl
          try simp only [Act.put, List.setIfInBounds_toArray, List.set_cons_zero, List.set_cons_succ]
          refine wpAnyH_take (i := 1) (v := ?_) (by simp only [List.getElem?_toArray, List.getElem?_cons_succ, List.getElem?_cons_zero]; exact rfl) (by kernel_rfl) (by kernel_rfl) (by kernel_rfl) (fun _ _ _ h => h) (Or.inl ⟨by rfl, ?_⟩) (by assumption) ?_
          rotate_left 1
          · intro wq hSq; (try dsimp only at hSq); go_simp; try with_reducible rfl
          try simp only [Act.put, List.setIfInBounds_toArray, List.set_cons_zero, List.set_cons_succ]
          refine wpAnyH_take (i := 2) (v := ?_) (by simp only [List.getElem?_toArray, List.getElem?_cons_succ, List.getElem?_cons_zero]; exact rfl) (by kernel_rfl) (by kernel_rfl) (by kernel_rfl) (fun _ _ _ h => h) (Or.inl ⟨by rfl, ?_⟩) (by assumption) ?_
          rotate_left 1
          · intro wq hSq; (try dsimp only at hSq); go_simp; try with_reducible rfl
          try simp only [Act.put, List.setIfInBounds_toArray, List.set_cons_zero, List.set_cons_succ]
          refine wpAnyH_take (i := 3) (v := ?_) (by simp only [List.getElem?_toArray, List.getElem?_cons_succ, List.getElem?_cons_zero]; exact rfl) (by kernel_rfl) (by kernel_rfl) (by kernel_rfl) (fun _ _ _ h => h) (Or.inl ⟨by rfl, ?_⟩) (by assumption) ?_
          rotate_left 1
          · intro wq hSq; (try dsimp only at hSq); go_simp; try with_reducible rfl
          try simp only [Act.put, List.setIfInBounds_toArray, List.set_cons_zero, List.set_cons_succ]
          refine wpAnyH_take (i := 4) (v := ?_) (by simp only [List.getElem?_toArray, List.getElem?_cons_succ, List.getElem?_cons_zero]; exact rfl) (by kernel_rfl) (by kernel_rfl) (by kernel_rfl) (fun _ _ _ h => h) (Or.inl ⟨by rfl, ?_⟩) (by assumption) ?_
          rotate_left 1
          · intro wq hSq; (try dsimp only at hSq); go_simp; try with_reducible rfl
          try simp only [Act.put, List.setIfInBounds_toArray, List.set_cons_zero, List.set_cons_succ]
          refine wpAnyH_take (i := 5) (v := ?_) (by simp only [List.getElem?_toArray, List.getElem?_cons_succ, List.getElem?_cons_zero]; exact rfl) (by kernel_rfl) (by kernel_rfl) (by kernel_rfl) (fun _ _ _ h => h) (Or.inl ⟨by rfl, ?_⟩) (by assumption) ?_
          rotate_left 1
          · intro wq hSq; (try dsimp only at hSq); go_simp; try with_reducible rfl
          try simp only [Act.put, List.setIfInBounds_toArray, List.set_cons_zero, List.set_cons_succ]
          refine wpAnyH_take (i := 6) (v := ?_) (by simp only [List.getElem?_toArray, List.getElem?_cons_succ, List.getElem?_cons_zero]; exact rfl) (by kernel_rfl) (by kernel_rfl) (by kernel_rfl) (fun _ _ _ h => h) (Or.inl ⟨by rfl, ?_⟩) (by assumption) ?_
          rotate_left 1
          · intro wq hSq; (try dsimp only at hSq); go_simp; try with_reducible rfl
          try simp only [Act.put, List.setIfInBounds_toArray, List.set_cons_zero, List.set_cons_succ]
          refine wpAnyH_take (i := 7) (v := ?_) (by simp only [List.getElem?_toArray, List.getElem?_cons_succ, List.getElem?_cons_zero]; exact rfl) (by kernel_rfl) (by kernel_rfl) (by kernel_rfl) (fun _ _ _ h => h) (Or.inl ⟨by rfl, ?_⟩) (by assumption) ?_
          rotate_left 1
          · intro wq hSq; (try dsimp only at hSq); go_simp; try with_reducible rfl
          try simp only [Act.put, List.setIfInBounds_toArray, List.set_cons_zero, List.set_cons_succ]
          refine wpAnyH_take (i := 8) (v := ?_) (by simp only [List.getElem?_toArray, List.getElem?_cons_succ, List.getElem?_cons_zero]; exact rfl) (by kernel_rfl) (by kernel_rfl) (by kernel_rfl) (fun _ _ _ h => h) (Or.inl ⟨by rfl, ?_⟩) (by assumption) ?_
          rotate_left 1
          · intro wq hSq; (try dsimp only at hSq); go_simp; try with_reducible rfl
          try simp only [Act.put, List.setIfInBounds_toArray, List.set_cons_zero, List.set_cons_succ]
          refine wpAnyH_take (i := 9) (v := ?_) (by simp only [List.getElem?_toArray, List.getElem?_cons_succ, List.getElem?_cons_zero]; exact rfl) (by kernel_rfl) (by kernel_rfl) (by kernel_rfl) (fun _ _ _ h => h) (Or.inl ⟨by rfl, ?_⟩) (by assumption) ?_
          rotate_left 1
          · intro wq hSq; (try dsimp only at hSq); go_simp; try with_reducible rfl
          try simp only [Act.put, List.setIfInBounds_toArray, List.set_cons_zero, List.set_cons_succ]
          refine wpAnyH_take (i := 10) (v := ?_) (by simp only [List.getElem?_toArray, List.getElem?_cons_succ, List.getElem?_cons_zero]; exact rfl) (by kernel_rfl) (by kernel_rfl) (by kernel_rfl) (fun _ _ _ h => h) (Or.inl ⟨by rfl, ?_⟩) (by assumption) ?_
          rotate_left 1
          · intro wq hSq; (try dsimp only at hSq); go_simp; try with_reducible rfl
          try simp only [Act.put, List.setIfInBounds_toArray, List.set_cons_zero, List.set_cons_succ]
          refine wpAnyH_take (i := 11) (v := ?_) (by simp only [List.getElem?_toArray, List.getElem?_cons_succ, List.getElem?_cons_zero]; exact rfl) (by kernel_rfl) (by kernel_rfl) (by kernel_rfl) (fun _ _ _ h => h) (Or.inl ⟨by rfl, ?_⟩) (by assumption) ?_
          rotate_left 1
          · intro wq hSq; (try dsimp only at hSq); go_simp; try with_reducible rfl
          try simp only [Act.put, List.setIfInBounds_toArray, List.set_cons_zero, List.set_cons_succ]
          refine wpAnyH_take (i := 12) (v := ?_) (by simp only [List.getElem?_toArray, List.getElem?_cons_succ, List.getElem?_cons_zero]; exact rfl) (by kernel_rfl) (by kernel_rfl) (by kernel_rfl) (fun _ _ _ h => h) (Or.inl ⟨by rfl, ?_⟩) (by assumption) ?_
          rotate_left 1
          · intro wq hSq; (try dsimp only at hSq); go_simp; try with_reducible rfl
          try simp only [Act.put, List.setIfInBounds_toArray, List.set_cons_zero, List.set_cons_succ]
          refine wpAnyH_ready (rs := [13]) (by kernel_rfl) (by simp) ?_
          refine AllReadyH.cons (by simp only [List.getElem?_toArray, List.getElem?_cons_succ, List.getElem?_cons_zero]; exact rfl) (fun K hK => ?_) ?_
          · go_simp
            refine HA.mono ?_
            rintro e w6 ⟨rfl, va', vn', f0, f1, f2, f3, _, _⟩
            obtain ⟨k0, k1, k2, k3, k4, k5, k6, k7, k8, k9, k10⟩ := HS.out w6 f3
            have F1 : Hid _ := HP3.out.add f0 f1 f2 f3
            clear f0 f1 f2 f3
            try dsimp only
            refine hK.out _ _ ?_ (fun hHeld1 => ?_)
            · (try dsimp only); go_keep
            clear hK K hHeld0
            try simp only [Act.put, List.setIfInBounds_toArray, List.set_cons_zero, List.set_cons_succ]
            refine wpAnyH_done (by kernel_rfl) ?_ _
            refine NoPanic.normal ?_
            go_wp2_with fail
            go_roundw
            case rel =>
              have f1 := F1.out
              have ea : acells (E.tab qs).acc k ++ [.bool (decide (tv ≤ most))] = acells (E.tab qs).acc (k + 1) := by
                simp only [acells, Ear.tab]
                rw [HQ.out, ← HTV.out]
              have er : rcells (pn E.succ qs) k ++ [(.int .i64 ((pn E.succ qs k 0 : Nat) : Int)), (.int .i64 ((pn E.succ qs k 1 : Nat) : Int)), (.int .i64 ((pn E.succ qs k 2 : Nat) : Int)), (.int .i64 ((pn E.succ qs k 3 : Nat) : Int)), (.int .i64 ((pn E.succ qs k 4 : Nat) : Int)), (.int .i64 ((pn E.succ qs k 5 : Nat) : Int)), (.int .i64 ((pn E.succ qs k 6 : Nat) : Int)), (.int .i64 ((pn E.succ qs k 7 : Nat) : Int))] = rcells (pn E.succ qs) (k + 1) := by
                simp only [rcells]; rfl
              rw [ea, er] at f1
              exact ⟨k + 1, qs, _, _, by omega, by go_num, by rw [show 8 * (k + 1) = 8 * k + 8 by omega]; exact HR.out, f1⟩
            case measure => simp [intOf]; omega
          exact AllReadyH.nil
    · have he : k = ps.length := by omega
      subst he
      obtain ⟨y0, y1, _, _⟩ := cell_two hP.blk
      obtain ⟨aa, ca, rfl, haa⟩ := ownsRow_shape hP.own0
      obtain ⟨an, cn, rfl, han⟩ := ownsRow_shape hP.own1
      obtain ⟨ga, rfl, _⟩ := haa hR.len
      obtain ⟨gn, rfl, _⟩ := han hR.len
      have HP : Hid (WMem W (w.heap.size + 1) wo (hX E ps) ps.length (.slice (some ⟨gp, 0, none⟩) ps.length cp) (.slice (some ⟨ga, 0, none⟩) ps.length ca) (.slice (some ⟨gn, 0, none⟩) ps.length cn) ps.length (acells (E.tab ps).acc ps.length) (rcells (pn E.succ ps) ps.length)) := hP
      have HR : Hid (PRel E.good E.succ ps (8 * ps.length)) := hR
      have HY0 : Hid _ := y0
      have HY1 : Hid _ := y1
      have HBw : Hid _ := hbw
      clear hP hR hap hcp y0 y1 haa han x0 x1 hbw
      go_wp2_with fail
      go_ret
      have hp := HP.out
      have hfin : WideAt wo (w.heap.size + 1) ga ca gn cn (E.tab ps) := ⟨HY0.out, HY1.out, fun x hx => by
          have hx' : x < ps.length := hx
          rw [hp.own0.cellAt x (by omega)]
          exact acells_at _ _ _ hx', fun x c hx hc => by
          have hx' : x < ps.length := hx
          rw [hp.own1.cellAt (x * 8 + c) (by omega)]
          exact rcells_at _ _ _ _ hx' hc⟩
      have hrf := HR.out
      rw [HE.out] at hfin hrf
      exact ⟨HBw.out, ps, (w.heap.size + 1), ga, ca, gn, cn, hrf, rfl, hfin⟩
end Go.Proofs.Ytpngikmcjkjdaab
namespace Go.Proofs.Ytpngikmcjkjdaab
open Go.RowKit
set_option linter.unusedVariables false
set_option maxRecDepth 20000 in
set_option maxHeartbeats 2000000 in
theorem enear_ok (s : ByteArray) (most budget : Nat) (w : World) (hs : s.size ≤ 12) (hm : most ≤ 2) (ht : IsText s) (hb0 : 1 ≤ budget) (hb1 : budget ≤ 40) :
    Calls Try.prog 42 #[.string s, .int .i64 most, .int .i64 budget] w fun e w' => ∃ n, LeastPost (Ear.lang ⟨noteAt s, s.size, most⟩) budget n w e w' := by
  have HT := fun w => isTune_ok s w (by unfold maxLen; omega)
  rw [show (decide (s.size ≤ 12) && textTo s s.size) = true by simp [hs, (textTo_isText s).2 ht]] at HT
  obtain ⟨W, hW⟩ : ∃ W, W = (w.alloc (.cells #[.slice none 0 0, .slice none 0 0] 30)).alloc (.cells #[.string s, .int .i64 most] 101) := ⟨_, rfl⟩
  have BW : Below w.heap.size w W := by rw [hW]; exact ((Below.refl _ _).alloc (Nat.le_refl _) _).alloc (by simp) _
  have hWs : W.heap.size = w.heap.size + 1 + 1 := by rw [hW]; simp
  have b0 : W.heap[w.heap.size]? = some (.cells #[.slice none 0 0, .slice none 0 0] 30 (0, 0)) := by rw [hW]; exact heap_at_old (heap_at_new (by simp))
  have HC := widen_ok s most W hs hm ht
  have hm2 : ¬ (2 : Int) < (most : Int) := by omega
  have hm3 : ¬ (most : Int) < 0 := by omega
  go_enter Try.func42, Try.ntmps42
  go_wp2_with (go_at_call 59; refine (HT _).mono ?_; rintro e w' ⟨rfl, rfl⟩)
  rw [← hW]
  clear hW HT
  refine HC.mono ?_
  clear HC
  rintro e w2 ⟨hB2, ps, gw, ga, ca, gn, cn, hR, rfl, hWd⟩
  have hs2 := hB2.size
  have hbd := Ear.bound (E := ⟨noteAt s, s.size, most⟩) hs hR
  have HC := wleast_ok gw ga ca gn cn _ (Ear.lang ⟨noteAt s, s.size, most⟩) budget w2 hWd (Ear.numbered hR) (by show ps.length ≤ 100000000; omega) (fun x hx => Ear.tab_accepts hR x hx) hb0 hb1
  have BW2 : Below w.heap.size w w2 := BW.trans (hB2.mono (by omega))
  have a2 := (hB2.block _ (by omega)).trans b0
  clear hR hWd hB2
  go_wp2_with fail
  refine HC.mono ?_
  intro e w3 hp
  obtain ⟨a0, n0, c0, a1, n1, c1, er, rfl, hB, hB1, hfin⟩ := hp.wrap BW2 (by omega)
  have a3 := (hB1.block _ (by omega)).trans a2
  have HF : Hid _ := hfin w.heap.size (by omega) (by omega)
  obtain ⟨q0, q1, p0, p1⟩ := cell_two a3
  clear HC hp hfin hB1
  go_wp2_with fail
  obtain ⟨r1, r2, r3⟩ := res_two (u := .slice a0 n0 c0) (v := .slice a1 n1 c1) a3
  refine bodyPost_ret (v := .tuple #[.agg #[.slice a0 n0 c0, .slice a1 n1 c1], .int .i64 er]) (by simp [results, Try.results42, go_sem, r1, r2]) rfl ?_
  exact ⟨_, HF.out⟩
set_option maxRecDepth 20000 in
set_option maxHeartbeats 1000000 in
theorem near_ok (s : ByteArray) (most budget : Nat) (w : World) (hs : s.size ≤ 12) (hm : most ≤ 2) (ht : IsText s) (hb0 : 1 ≤ budget) (hb1 : budget ≤ 40) :
    Calls Try.prog 21 #[.string s, .int .i64 most, .int .i64 budget] w fun e w' => ∃ n, LeastPost (Ear.lang ⟨noteAt s, s.size, most⟩) budget n w e w' := by
  obtain ⟨W, hW⟩ : ∃ W, W = w.alloc (.cells #[.slice none 0 0, .slice none 0 0] 30) := ⟨_, rfl⟩
  have BW : Below w.heap.size w W := by rw [hW]; exact (Below.refl _ _).alloc (Nat.le_refl _) _
  have hWs : W.heap.size = w.heap.size + 1 := by rw [hW]; simp
  have b0 : W.heap[w.heap.size]? = some (.cells #[.slice none 0 0, .slice none 0 0] 30 (0, 0)) := by rw [hW]; exact heap_at_new rfl
  have HC := enear_ok s most budget W hs hm ht hb0 hb1
  go_enter Try.func21, Try.ntmps21
  go_wp2_with fail
  rw [← hW]
  clear hW
  refine HC.mono ?_
  rintro e w1 ⟨n, hp⟩
  obtain ⟨a0, n0, c0, a1, n1, c1, er, rfl, hB, hB1, hfin⟩ := hp.wrap BW (by omega)
  have a2 := (hB1.block _ (by omega)).trans b0
  have HF : Hid _ := hfin w.heap.size (by omega) (by omega)
  obtain ⟨q0, q1, p0, p1⟩ := cell_two a2
  clear HC hp hfin hB1 b0
  go_wp2_with fail
  obtain ⟨r1, r2, r3⟩ := res_two (u := .slice a0 n0 c0) (v := .slice a1 n1 c1) a2
  refine bodyPost_ret (v := .tuple #[.agg #[.slice a0 n0 c0, .slice a1 n1 c1], .int .i64 er]) (by simp [results, Try.results21, go_sem, r1, r2]) rfl ?_
  exact ⟨n, HF.out⟩
end Go.Proofs.Ytpngikmcjkjdaab
