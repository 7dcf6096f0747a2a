import Derived.Test.YtpngikmcjkjdaabBookK
namespace Go.Proofs.Ytpngikmcjkjdaab
open Go.RowKit
set_option linter.unusedVariables false
set_option linter.unusedSimpArgs false

set_option maxRecDepth 20000 in
set_option maxHeartbeats 1000000 in
theorem tadd_ok (w : World) (bx n : Nat) (t : Nat → ByteArray) (cx : Nat → Value) (s : ByteArray) (p : Nat) (h : BxAt w bx t n cx) (hn : n ≤ 60) (hs : s.size ≤ maxLen) (hp : IsPl t n s p) :
    Calls Try.prog 35 #[.pointer (some ⟨bx, 0, none⟩), .string s] w fun e w' => e = .returned (.tuple #[.bool (addOk t n s p), .int .i64 (addErr t n s p)]) ∧ BxAt w' bx (addT t n s p) (addN t n s p) cx ∧ Touch (fun k => k = bx) w w' := by
  have HC := badd_ok w bx n t cx s p h hn hs hp
  clear h
  go_enter Try.func35, Try.ntmps35
  go_wp2_with (go_at_call 50; refine HC.mono ?_; rintro e w1 ⟨rfl, hx, ht⟩; have HX : Hid (BxAt w1 bx (addT t n s p) (addN t n s p) cx) := hx; have HT : Hid (Touch (fun k => k = bx) w w1) := ht; clear hx ht)
  go_ret2
  exact ⟨rfl, HX.out, HT.out⟩
set_option maxRecDepth 20000 in
set_option maxHeartbeats 1000000 in
theorem tdrop_ok (w : World) (bx n : Nat) (t : Nat → ByteArray) (cx : Nat → Value) (s : ByteArray) (p : Nat) (h : BxAt w bx t n cx) (hn : n ≤ 60) (hs : s.size ≤ maxLen) (hp : IsPl t n s p) :
    Calls Try.prog 25 #[.pointer (some ⟨bx, 0, none⟩), .string s] w fun e w' => e = .returned (.tuple #[.bool (dropOk t n s p), .int .i64 (dropErr s)]) ∧ BxAt w' bx (dropT t n s p) (dropN t n s p) cx ∧ Touch (fun k => k = bx) w w' := by
  have HC := bdrop_ok w bx n t cx s p h hn hs hp
  clear h
  go_enter Try.func25, Try.ntmps25
  go_wp2_with (go_at_call 44; refine HC.mono ?_; rintro e w1 ⟨rfl, hx, ht⟩; have HX : Hid (BxAt w1 bx (dropT t n s p) (dropN t n s p) cx) := hx; have HT : Hid (Touch (fun k => k = bx) w w1) := ht; clear hx ht)
  go_ret2
  exact ⟨rfl, HX.out, HT.out⟩
set_option maxRecDepth 20000 in
theorem thas_ok (w : World) (bx n : Nat) (t : Nat → ByteArray) (cx : Nat → Value) (s : ByteArray) (p : Nat) (h : BxAt w bx t n cx) (hn : n ≤ 60) (hs : s.size ≤ maxLen) (hp : IsPl t n s p) :
    Calls Try.prog 36 #[.pointer (some ⟨bx, 0, none⟩), .string s] w fun e w' => e = .returned (.tuple #[.bool (dropOk t n s p), .int .i64 (dropErr s)]) ∧ w' = w := by
  have HC := bhas_ok w bx n t cx s p h hn hs hp
  clear h
  go_enter Try.func36, Try.ntmps36
  go_wp2_with (go_at_call 51; refine HC.mono ?_; rintro e w1 ⟨rfl, hw1⟩; obtain rfl : w = w1 := hw1.symm)
  go_ret2
  exact ⟨rfl, rfl⟩
set_option maxRecDepth 20000 in
theorem tcount_ok (w : World) (bx n : Nat) (t : Nat → ByteArray) (cx : Nat → Value) (h : BxAt w bx t n cx) :
    Calls Try.prog 29 #[.pointer (some ⟨bx, 0, none⟩)] w fun e w' => e = .returned (.int .i64 (n : Int)) ∧ w' = w := by
  have HC := bcount_ok w bx n t cx h
  clear h
  go_enter Try.func29, Try.ntmps29
  go_wp2_with (go_at_call 46; refine HC.mono ?_; rintro e w1 ⟨rfl, hw1⟩; obtain rfl : w = w1 := hw1.symm)
  go_ret
  exact ⟨rfl, rfl⟩
set_option maxRecDepth 20000 in
theorem tknots_ok (w : World) (bx n : Nat) (t : Nat → ByteArray) (cx : Nat → Value) (h : BxAt w bx t n cx) (hn : n ≤ 60) (hz : ∀ i, i < n → (t i).size ≤ 12) :
    Calls Try.prog 28 #[.pointer (some ⟨bx, 0, none⟩)] w fun e w' => Below w.heap.size w w' ∧ ∃ v, e = .returned v ∧ w'.ownsRow w.heap.size 9 1 v (knots t n n).length (strs (knots t n n)) := by
  have HC := bknots_ok w bx n t cx h hn hz
  clear h
  go_enter Try.func28, Try.ntmps28
  go_wp2_with (go_at_call 45; refine HC.mono ?_; rintro e w1 ⟨hb, v, rfl, ho⟩; have HB : Hid (Below w.heap.size w w1) := hb; have HO : Hid (w1.ownsRow w.heap.size 9 1 v (knots t n n).length (strs (knots t n n))) := ho; clear hb ho)
  go_ret
  exact ⟨HB.out, _, rfl, HO.out⟩
theorem Try.zero_size : Try.zeroCells79.size = 81 := by kernel_rfl
/-- What a new book's cursors hold. -/
def cur0 : Nat → Value := fun j => if j % 5 = 0 then .bool false else if j % 5 = 1 then .slice none 0 0 else if j % 5 = 2 then .slice none 0 0 else if j % 5 = 3 then .bool false else .string ByteArray.empty
set_option maxRecDepth 20000 in
theorem zero_book (t : Nat → ByteArray) : ∀ i, i < 81 → Try.zeroCells79[i]? = some (bookv t 0 cur0 i)
    | 0, _ => rfl
    | 1, _ => rfl
    | 2, _ => rfl
    | 3, _ => rfl
    | 4, _ => rfl
    | 5, _ => rfl
    | 6, _ => rfl
    | 7, _ => rfl
    | 8, _ => rfl
    | 9, _ => rfl
    | 10, _ => rfl
    | 11, _ => rfl
    | 12, _ => rfl
    | 13, _ => rfl
    | 14, _ => rfl
    | 15, _ => rfl
    | 16, _ => rfl
    | 17, _ => rfl
    | 18, _ => rfl
    | 19, _ => rfl
    | 20, _ => rfl
    | 21, _ => rfl
    | 22, _ => rfl
    | 23, _ => rfl
    | 24, _ => rfl
    | 25, _ => rfl
    | 26, _ => rfl
    | 27, _ => rfl
    | 28, _ => rfl
    | 29, _ => rfl
    | 30, _ => rfl
    | 31, _ => rfl
    | 32, _ => rfl
    | 33, _ => rfl
    | 34, _ => rfl
    | 35, _ => rfl
    | 36, _ => rfl
    | 37, _ => rfl
    | 38, _ => rfl
    | 39, _ => rfl
    | 40, _ => rfl
    | 41, _ => rfl
    | 42, _ => rfl
    | 43, _ => rfl
    | 44, _ => rfl
    | 45, _ => rfl
    | 46, _ => rfl
    | 47, _ => rfl
    | 48, _ => rfl
    | 49, _ => rfl
    | 50, _ => rfl
    | 51, _ => rfl
    | 52, _ => rfl
    | 53, _ => rfl
    | 54, _ => rfl
    | 55, _ => rfl
    | 56, _ => rfl
    | 57, _ => rfl
    | 58, _ => rfl
    | 59, _ => rfl
    | 60, _ => rfl
    | 61, _ => rfl
    | 62, _ => rfl
    | 63, _ => rfl
    | 64, _ => rfl
    | 65, _ => rfl
    | 66, _ => rfl
    | 67, _ => rfl
    | 68, _ => rfl
    | 69, _ => rfl
    | 70, _ => rfl
    | 71, _ => rfl
    | 72, _ => rfl
    | 73, _ => rfl
    | 74, _ => rfl
    | 75, _ => rfl
    | 76, _ => rfl
    | 77, _ => rfl
    | 78, _ => rfl
    | 79, _ => rfl
    | 80, _ => rfl
    | i + 81, h => by omega
set_option maxRecDepth 20000 in
theorem tnew_ok (w : World) (t : Nat → ByteArray) :
    Calls Try.prog 43 #[] w fun e w' => Below w.heap.size w w' ∧ ∃ bx, e = .returned (.pointer (some ⟨bx, 0, none⟩)) ∧ w.heap.size ≤ bx ∧ BxAt w' bx t 0 cur0 := by
  go_enter Try.func43, Try.ntmps43
  go_wp2_with fail
  go_ret
  exact ⟨(Below.refl _ _).alloc (Nat.le_refl _) _, _, rfl, Nat.le_refl _, _, heap_at_new rfl, Try.zero_size, zero_book t⟩
end Go.Proofs.Ytpngikmcjkjdaab
