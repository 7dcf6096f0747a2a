import Derived.Test.YtpngikmcjkjdaabG10
import Derived.Test.YtpngikmcjkjdaabG9
set_option linter.unusedVariables false
set_option linter.unusedSimpArgs false
namespace Go.Proofs.Ytpngikmcjkjdaab
open Go.RowKit
set_option linter.unusedVariables false
set_option linter.unusedSimpArgs false
def PartPost (bp : Nat) (s : ByteArray) (vn : Value) (r : Res (Nat × Nat)) (e : Ending) (w' : World) : Prop :=
  match r with
  | .no t => (∃ f g : Int, e = .returned (.tuple #[.int .i64 f, .int .i64 g, .bool false])) ∧ ParAt w' bp s t.a vn t.bk (t.sp : Int)
  | .ok (f, g) t => e = .returned (.tuple #[.int .i64 ((f : Nat) : Int), .int .i64 ((g : Nat) : Int), .bool true]) ∧ ParAt w' bp s t.a vn t.bk (t.sp : Int)
theorem Touch.tr {S : Nat → Prop} {w w1 w2 : World} (h : Touch S w w1) (h' : Touch S w1 w2) : Touch S w w2 := h.join h' (fun _ _ h => h)
theorem note_cast {s : ByteArray} {a : Nat} (h : noteHere s a = true) : (byteAt s a : Int) - 97 = ((byteAt s a - 97 : Nat) : Int) := by
  have := note_num h; omega
theorem digit_cast {s : ByteArray} {a : Nat} (h : digitHere s a = true) : (byteAt s a : Int) - 48 = ((byteAt s a - 48 : Nat) : Int) := by
  have := digit_num h; omega
theorem take_yes {bp : Nat} {s : ByteArray} {a b : Nat} {vn : Value} {bk : Bool} {sp : Int} {w : World} (hs : s.size ≤ 40) (hh : hit s a b = true) (h : ParAt w bp s a vn bk sp) :
    Calls Try.prog 86 #[.pointer (some ⟨bp, 0, none⟩), .int .u8 (b : Int)] w
      fun e w' => e = .returned (.bool true) ∧ ParAt w' bp s (a + 1) vn bk sp ∧ Touch (fun k => k = bp) w w' := by
  have := take_ok bp s a b vn bk sp w hs h
  simpa only [hh, if_true] using this
theorem take_not {bp : Nat} {s : ByteArray} {a b : Nat} {vn : Value} {bk : Bool} {sp : Int} {w : World} (hs : s.size ≤ 40) (hh : hit s a b = false) (h : ParAt w bp s a vn bk sp) :
    Calls Try.prog 86 #[.pointer (some ⟨bp, 0, none⟩), .int .u8 (b : Int)] w
      fun e w' => e = .returned (.bool false) ∧ ParAt w' bp s a vn bk sp ∧ Touch (fun k => k = bp) w w' := by
  have := take_ok bp s a b vn bk sp w hs h
  simpa only [hh, Bool.false_eq_true, if_false] using this
theorem note_yes {bp : Nat} {s : ByteArray} {a : Nat} {vn : Value} {bk : Bool} {sp : Int} {w : World} (hs : s.size ≤ 40) (hh : noteHere s a = true) (h : ParAt w bp s a vn bk sp) :
    Calls Try.prog 105 #[.pointer (some ⟨bp, 0, none⟩)] w
      fun e w' => e = .returned (.tuple #[.int .i64 ((byteAt s a - 97 : Nat) : Int), .bool true]) ∧ ParAt w' bp s (a + 1) vn bk sp ∧ Touch (fun k => k = bp) w w' := by
  have := pnote_ok bp s a vn bk sp w hs h
  simpa only [hh, if_true, note_cast hh] using this
theorem note_not {bp : Nat} {s : ByteArray} {a : Nat} {vn : Value} {bk : Bool} {sp : Int} {w : World} (hs : s.size ≤ 40) (hh : noteHere s a = false) (h : ParAt w bp s a vn bk sp) :
    Calls Try.prog 105 #[.pointer (some ⟨bp, 0, none⟩)] w
      fun e w' => e = .returned (.tuple #[.int .i64 0, .bool false]) ∧ ParAt w' bp s a vn bk sp ∧ Touch (fun k => k = bp) w w' := by
  have := pnote_ok bp s a vn bk sp w hs h
  simpa only [hh, Bool.false_eq_true, if_false] using this
theorem digit_yes {bp : Nat} {s : ByteArray} {a : Nat} {vn : Value} {bk : Bool} {sp : Int} {w : World} (hs : s.size ≤ 40) (hh : digitHere s a = true) (h : ParAt w bp s a vn bk sp) :
    Calls Try.prog 106 #[.pointer (some ⟨bp, 0, none⟩)] w
      fun e w' => e = .returned (.tuple #[.int .i64 ((byteAt s a - 48 : Nat) : Int), .bool true]) ∧ ParAt w' bp s (a + 1) vn bk sp ∧ Touch (fun k => k = bp) w w' := by
  have := digit_ok bp s a vn bk sp w hs h
  simpa only [hh, if_true, digit_cast hh] using this
theorem digit_not {bp : Nat} {s : ByteArray} {a : Nat} {vn : Value} {bk : Bool} {sp : Int} {w : World} (hs : s.size ≤ 40) (hh : digitHere s a = false) (h : ParAt w bp s a vn bk sp) :
    Calls Try.prog 106 #[.pointer (some ⟨bp, 0, none⟩)] w
      fun e w' => e = .returned (.tuple #[.int .i64 0, .bool false]) ∧ ParAt w' bp s a vn bk sp ∧ Touch (fun k => k = bp) w w' := by
  have := digit_ok bp s a vn bk sp w hs h
  simpa only [hh, Bool.false_eq_true, if_false] using this
set_option maxRecDepth 20000 in
set_option maxHeartbeats 1600000 in
theorem part_ok (bp : Nat) (s : ByteArray) (t : Sp) (vn : Value) (w : World) (hs : s.size ≤ 40) (h : ParAt w bp s t.a vn t.bk (t.sp : Int)) :
    Calls Try.prog 108 #[.pointer (some ⟨bp, 0, none⟩)] w fun e w' => PartPost bp s vn (partF s t) e w' ∧ Touch (fun k => k = bp) w w' := by
  obtain ⟨a, bk, sp⟩ := t
  simp only at h
  cases h1 : noteHere s a
  · have hr : partF s ⟨a, bk, sp⟩ = .no ⟨a, bk, sp⟩ := by simp [partF, h1]
    rw [hr]
    have HC := note_not hs h1 h
    clear hr h1 h
    go_enter Try.func108, Try.ntmps108
    go_wp2_with fail
    refine HC.mono ?_
    rintro e w1 ⟨rfl, hp, ht⟩
    go_wp2_with fail
    refine bodyPost_ret (v := .tuple #[.int .i64 0, .int .i64 0, .bool false]) (by simp [results, Try.results108, go_sem]) rfl ?_
    exact ⟨⟨⟨0, 0, rfl⟩, hp⟩, ht⟩
  · have HC := note_yes hs h1 h
    obtain ⟨f, HF⟩ : ∃ x, Hid (byteAt s a - 97 = x) := ⟨_, rfl⟩
    cases h2 : hit s (a + 1) 45
    · have hr : partF s ⟨a, bk, sp⟩ = .ok (f, f) ⟨a + 1, bk, sp⟩ := by simp [partF, h1, h2, Sp.go, HF.out]
      rw [hr]
      rw [HF.out] at HC
      clear hr h1 h
      go_enter Try.func108, Try.ntmps108
      go_wp2_with fail
      refine HC.mono ?_
      rintro e w1 ⟨rfl, hp, ht⟩
      clear HC
      have HC2 := take_not hs h2 hp
      go_wp2_with fail
      refine HC2.mono ?_
      rintro e w2 ⟨rfl, hp2, ht2⟩
      go_wp2_with fail
      refine bodyPost_ret (v := .tuple #[.int .i64 (f : Int), .int .i64 (f : Int), .bool true]) (by simp [results, Try.results108, go_sem]) rfl ?_
      exact ⟨⟨rfl, hp2⟩, ht.tr ht2⟩
    · cases h3 : noteHere s (a + 1 + 1)
      · have hr : partF s ⟨a, bk, sp⟩ = .no ⟨a + 1 + 1, bk, sp⟩ := by simp [partF, h1, h2, h3, Sp.go]
        rw [hr]
        rw [HF.out] at HC
        clear hr h1 h
        go_enter Try.func108, Try.ntmps108
        go_wp2_with fail
        refine HC.mono ?_
        rintro e w1 ⟨rfl, hp, ht⟩
        clear HC
        have HC2 := take_yes hs h2 hp
        go_wp2_with fail
        refine HC2.mono ?_
        rintro e w2 ⟨rfl, hp2, ht2⟩
        clear HC2
        have HC3 := note_not hs h3 hp2
        go_wp2_with fail
        refine HC3.mono ?_
        rintro e w3 ⟨rfl, hp3, ht3⟩
        go_wp2_with fail
        refine bodyPost_ret (v := .tuple #[.int .i64 (f : Int), .int .i64 0, .bool false]) (by simp [results, Try.results108, go_sem]) rfl ?_
        exact ⟨⟨⟨_, _, rfl⟩, hp3⟩, (ht.tr ht2).tr ht3⟩
      · obtain ⟨g, HG⟩ : ∃ x, Hid (byteAt s (a + 1 + 1) - 97 = x) := ⟨_, rfl⟩
        have hr : partF s ⟨a, bk, sp⟩ = .ok (f, g) ⟨a + 1 + 1 + 1, bk, sp⟩ := by simp [partF, h1, h2, h3, Sp.go, HF.out, HG.out]
        rw [hr]
        rw [HF.out] at HC
        clear hr h1 h
        go_enter Try.func108, Try.ntmps108
        go_wp2_with fail
        refine HC.mono ?_
        rintro e w1 ⟨rfl, hp, ht⟩
        clear HC
        have HC2 := take_yes hs h2 hp
        go_wp2_with fail
        refine HC2.mono ?_
        rintro e w2 ⟨rfl, hp2, ht2⟩
        clear HC2
        have HC3 := note_yes hs h3 hp2
        rw [HG.out] at HC3
        go_wp2_with fail
        refine HC3.mono ?_
        rintro e w3 ⟨rfl, hp3, ht3⟩
        go_wp2_with fail
        refine bodyPost_ret (v := .tuple #[.int .i64 (f : Int), .int .i64 (g : Int), .bool true]) (by simp [results, Try.results108, go_sem]) rfl ?_
        exact ⟨⟨rfl, hp3⟩, (ht.tr ht2).tr ht3⟩
end Go.Proofs.Ytpngikmcjkjdaab

namespace Go.Proofs.Ytpngikmcjkjdaab
open Go.RowKit
set_option linter.unusedVariables false
set_option linter.unusedSimpArgs false
def CountPost (bp : Nat) (s : ByteArray) (vn : Value) (r : Res (Nat × Nat × Bool)) (e : Ending) (w' : World) : Prop :=
  match r with
  | .no t => (∃ (a b : Int) (c : Bool), e = .returned (.tuple #[.agg #[.int .i64 a, .int .i64 b, .bool c], .bool false])) ∧ ParAt w' bp s t.a vn t.bk (t.sp : Int)
  | .ok (lo, co, en) t => e = .returned (.tuple #[.agg #[.int .i64 ((lo : Nat) : Int), .int .i64 ((co : Nat) : Int), .bool en], .bool true]) ∧ ParAt w' bp s t.a vn t.bk (t.sp : Int)
theorem ParAt.other {w : World} {bp : Nat} {s : ByteArray} {a : Nat} {vn : Value} {bk : Bool} {sp : Int} (h : ParAt w bp s a vn bk sp) {p : Addr} (hp : bp ≠ p.block) (v : Value) : ParAt (w.setCell p v) bp s a vn bk sp := heap_set_other h hp
theorem ParAt.block {w w1 : World} {bp : Nat} {s : ByteArray} {a : Nat} {vn : Value} {bk : Bool} {sp : Int} (h : ParAt w bp s a vn bk sp) (hb : w1.heap[bp]? = w.heap[bp]?) : ParAt w1 bp s a vn bk sp := hb.trans h
theorem mark_fin {w w1 : World} {bp B : Nat} {s : ByteArray} {a : Nat} {vn : Value} {bk : Bool} {sp : Int} (hp : ParAt w1 bp s a vn bk sp) (ht : Touch (fun k => k = bp) w w1) (hB : w.heap.size ≤ B) (hne : bp < B) {x y z : Value} {t : TypeId} (hblk : w1.heap[B]? = some (.cells #[x, y, z] t (0, 0))) (u v r : Value) :
    (((w1.setCell ⟨B, 0, none⟩ u).setCell ⟨B, 1, none⟩ v).setCell ⟨B, 2, none⟩ r).cell? ⟨B, 0, none⟩ = some u ∧ (((w1.setCell ⟨B, 0, none⟩ u).setCell ⟨B, 1, none⟩ v).setCell ⟨B, 2, none⟩ r).cell? ⟨B, 1, none⟩ = some v ∧ (((w1.setCell ⟨B, 0, none⟩ u).setCell ⟨B, 1, none⟩ v).setCell ⟨B, 2, none⟩ r).cell? ⟨B, 2, none⟩ = some r ∧
    ParAt (((w1.setCell ⟨B, 0, none⟩ u).setCell ⟨B, 1, none⟩ v).setCell ⟨B, 2, none⟩ r) bp s a vn bk sp ∧ Touch (fun k => k = bp) w (((w1.setCell ⟨B, 0, none⟩ u).setCell ⟨B, 1, none⟩ v).setCell ⟨B, 2, none⟩ r) := by
  have h3 : (((w1.setCell ⟨B, 0, none⟩ u).setCell ⟨B, 1, none⟩ v).setCell ⟨B, 2, none⟩ r).heap[B]? = some (.cells #[u, v, r] t (0, 0)) := by
    simp [World.setCell, Array.getElem?_modify, hblk]
  obtain ⟨c0, c1, c2, _, _, _⟩ := cell_three' h3
  exact ⟨c0, c1, c2, ((hp.other (by simp; omega) _).other (by simp; omega) _).other (by simp; omega) _, ((ht.set _ _ (.inr hB)).set _ _ (.inr hB)).set _ _ (.inr hB)⟩
theorem tell_yes {bp : Nat} {s : ByteArray} {a : Nat} {vn : Value} {bk : Bool} {sp pl : Nat} {w : World} (h : ParAt w bp s a vn bk (sp : Int)) :
    Calls Try.prog 107 #[.pointer (some ⟨bp, 0, none⟩), .int .i64 (pl : Int)] w
      fun e w' => e = .returned (.tuple #[]) ∧ ParAt w' bp s a vn true (((if bk then sp else pl : Nat) : Nat) : Int) ∧ Touch (fun k => k = bp) w w' := by
  have := tellBackward_ok bp s a vn bk (sp : Int) (pl : Int) w h
  cases bk <;> simpa using this
set_option maxRecDepth 20000 in
set_option maxHeartbeats 4000000 in
theorem count_ok (bp : Nat) (s : ByteArray) (t : Sp) (vn : Value) (w : World) (hs : s.size ≤ 40) (hta : t.a ≤ 40) (h : ParAt w bp s t.a vn t.bk (t.sp : Int)) :
    Calls Try.prog 100 #[.pointer (some ⟨bp, 0, none⟩)] w fun e w' => CountPost bp s vn (countF s t) e w' ∧ Touch (fun k => k = bp) w w' := by
  obtain ⟨a, bk, sp⟩ := t
  simp only at h hta
  have hbp : bp < w.heap.size := heap_lt h
  obtain ⟨W, hW⟩ : ∃ W, W = w.alloc (.cells #[.int .i64 0, .int .i64 0, .bool false] 90) := ⟨_, rfl⟩
  have TW : Touch (fun k => k = bp) w W := by rw [hW]; exact (Touch.refl _ _).alloc _
  have hWs : w.heap.size < W.heap.size := by rw [hW]; simp
  have b0 : W.heap[w.heap.size]? = some (.cells #[.int .i64 0, .int .i64 0, .bool false] 90 (0, 0)) := by rw [hW]; exact heap_at_new rfl
  have h0 : ParAt W bp s a vn bk (sp : Int) := h.block (by rw [hW]; exact Below.heap_alloc w _ bp hbp)
  obtain ⟨x0, x1, x2, x3, x4, _, _, _⟩ := h0.cells
  clear x0 x2 x3 x4
  cases h1 : digitHere s a
  · have hr : countF s ⟨a, bk, sp⟩ = .no ⟨a, bk, sp⟩ := by simp [countF, Sp.go, spanF, Sp.tell, h1]
    rw [hr]
    clear hr h
    go_enter Try.func100, Try.ntmps100
    go_upto_region 1 with fail
    rw [← hW]
    clear hW
    have HC1 := digit_not hs h1 h0
    go_wp2_with fail
    refine HC1.mono ?_
    rintro e w1 ⟨rfl, hp1, ht1⟩
    clear HC1
    have hz1 := ht1.size
    have bb1 := (ht1.block _ (by omega) (by omega)).trans b0
    have tt1 := TW.tr ht1
    obtain ⟨q0, q1, q2, p0, p1, p2⟩ := cell_three' bb1
    obtain ⟨r0, r1, r2, hpf, htf⟩ := mark_fin hp1 tt1 (Nat.le_refl _) hbp bb1 (.int .i64 0) (.int .i64 0) (.bool false)
    have HR0 : Hid _ := r0
    have HR1 : Hid _ := r1
    have HR2 : Hid _ := r2
    clear r0 r1 r2
    go_wp2_with fail
    have r0 := HR0.out
    have r1 := HR1.out
    have r2 := HR2.out
    refine bodyPost_ret (v := .tuple #[.agg #[.int .i64 0, .int .i64 0, .bool false], .bool false]) (by simp [results, Try.results100, go_sem, r0, r1, r2]) rfl ?_
    exact ⟨⟨⟨_, _, _, rfl⟩, hpf⟩, htf⟩
  obtain ⟨f, HF⟩ : ∃ x, Hid (byteAt s a - 48 = x) := ⟨_, rfl⟩
  have hf9 : f ≤ 9 := by have := digit_num h1; rw [HF.out] at this; omega
  have HD : ∀ w, ParAt w bp s a vn bk (sp : Int) → _ := fun w h => digit_yes (w := w) hs h1 h
  rw [HF.out] at HD
  cases h2 : hit s (a + 1) 125
  rotate_left 1
  · have hr : countF s ⟨a, bk, sp⟩ = .ok (f, f, false) ⟨a + 1 + 1, bk, sp⟩ := by simp [countF, Sp.go, spanF, Sp.tell, h1, h2, HF.out]
    rw [hr]
    clear hr h
    go_enter Try.func100, Try.ntmps100
    go_upto_region 1 with fail
    rw [← hW]
    clear hW
    have HC1 := HD _ h0
    go_wp2_with fail
    refine HC1.mono ?_
    rintro e w1 ⟨rfl, hp1, ht1⟩
    clear HC1
    have hz1 := ht1.size
    have bb1 := (ht1.block _ (by omega) (by omega)).trans b0
    have tt1 := TW.tr ht1
    have HC2 := take_yes hs h2 hp1
    go_wp2_with fail
    refine HC2.mono ?_
    rintro e w2 ⟨rfl, hp2, ht2⟩
    clear HC2
    have hz2 := ht2.size
    have bb2 := (ht2.block _ (by omega) (by omega)).trans bb1
    have tt2 := tt1.tr ht2
    obtain ⟨q0, q1, q2, p0, p1, p2⟩ := cell_three' bb2
    obtain ⟨r0, r1, r2, hpf, htf⟩ := mark_fin hp2 tt2 (Nat.le_refl _) hbp bb2 (.int .i64 (f : Int)) (.int .i64 (f : Int)) (.bool false)
    have HR0 : Hid _ := r0
    have HR1 : Hid _ := r1
    have HR2 : Hid _ := r2
    clear r0 r1 r2
    go_wp2_with fail
    have r0 := HR0.out
    have r1 := HR1.out
    have r2 := HR2.out
    refine bodyPost_ret (v := .tuple #[.agg #[.int .i64 (f : Int), .int .i64 (f : Int), .bool false], .bool true]) (by simp [results, Try.results100, go_sem, r0, r1, r2]) rfl ?_
    exact ⟨⟨rfl, hpf⟩, htf⟩
  cases h3 : hit s (a + 1) 44
  · have hr : countF s ⟨a, bk, sp⟩ = .no ⟨a + 1, bk, sp⟩ := by simp [countF, Sp.go, spanF, Sp.tell, h1, h2, h3]
    rw [hr]
    clear hr h
    go_enter Try.func100, Try.ntmps100
    go_upto_region 1 with fail
    rw [← hW]
    clear hW
    have HC1 := HD _ h0
    go_wp2_with fail
    refine HC1.mono ?_
    rintro e w1 ⟨rfl, hp1, ht1⟩
    clear HC1
    have hz1 := ht1.size
    have bb1 := (ht1.block _ (by omega) (by omega)).trans b0
    have tt1 := TW.tr ht1
    have HC2 := take_not hs h2 hp1
    go_wp2_with fail
    refine HC2.mono ?_
    rintro e w2 ⟨rfl, hp2, ht2⟩
    clear HC2
    have hz2 := ht2.size
    have bb2 := (ht2.block _ (by omega) (by omega)).trans bb1
    have tt2 := tt1.tr ht2
    have HC3 := take_not hs h3 hp2
    go_wp2_with fail
    refine HC3.mono ?_
    rintro e w3 ⟨rfl, hp3, ht3⟩
    clear HC3
    have hz3 := ht3.size
    have bb3 := (ht3.block _ (by omega) (by omega)).trans bb2
    have tt3 := tt2.tr ht3
    obtain ⟨q0, q1, q2, p0, p1, p2⟩ := cell_three' bb3
    obtain ⟨r0, r1, r2, hpf, htf⟩ := mark_fin hp3 tt3 (Nat.le_refl _) hbp bb3 (.int .i64 0) (.int .i64 0) (.bool false)
    have HR0 : Hid _ := r0
    have HR1 : Hid _ := r1
    have HR2 : Hid _ := r2
    clear r0 r1 r2
    go_wp2_with fail
    have r0 := HR0.out
    have r1 := HR1.out
    have r2 := HR2.out
    refine bodyPost_ret (v := .tuple #[.agg #[.int .i64 0, .int .i64 0, .bool false], .bool false]) (by simp [results, Try.results100, go_sem, r0, r1, r2]) rfl ?_
    exact ⟨⟨⟨_, _, _, rfl⟩, hpf⟩, htf⟩
  cases h4 : hit s (a + 1 + 1) 125
  rotate_left 1
  · have hr : countF s ⟨a, bk, sp⟩ = .ok (f, f + 1, true) ⟨a + 1 + 1 + 1, bk, sp⟩ := by simp [countF, Sp.go, spanF, Sp.tell, h1, h2, h3, h4, HF.out]
    rw [hr]
    clear hr h
    go_enter Try.func100, Try.ntmps100
    go_upto_region 1 with fail
    rw [← hW]
    clear hW
    have HC1 := HD _ h0
    go_wp2_with fail
    refine HC1.mono ?_
    rintro e w1 ⟨rfl, hp1, ht1⟩
    clear HC1
    have hz1 := ht1.size
    have bb1 := (ht1.block _ (by omega) (by omega)).trans b0
    have tt1 := TW.tr ht1
    have HC2 := take_not hs h2 hp1
    go_wp2_with fail
    refine HC2.mono ?_
    rintro e w2 ⟨rfl, hp2, ht2⟩
    clear HC2
    have hz2 := ht2.size
    have bb2 := (ht2.block _ (by omega) (by omega)).trans bb1
    have tt2 := tt1.tr ht2
    have HC3 := take_yes hs h3 hp2
    go_wp2_with fail
    refine HC3.mono ?_
    rintro e w3 ⟨rfl, hp3, ht3⟩
    clear HC3
    have hz3 := ht3.size
    have bb3 := (ht3.block _ (by omega) (by omega)).trans bb2
    have tt3 := tt2.tr ht3
    have HC4 := take_yes hs h4 hp3
    go_wp2_with fail
    refine HC4.mono ?_
    rintro e w4 ⟨rfl, hp4, ht4⟩
    clear HC4
    have hz4 := ht4.size
    have bb4 := (ht4.block _ (by omega) (by omega)).trans bb3
    have tt4 := tt3.tr ht4
    obtain ⟨q0, q1, q2, p0, p1, p2⟩ := cell_three' bb4
    obtain ⟨r0, r1, r2, hpf, htf⟩ := mark_fin hp4 tt4 (Nat.le_refl _) hbp bb4 (.int .i64 (f : Int)) (.int .i64 ((f : Int) + 1)) (.bool true)
    have HR0 : Hid _ := r0
    have HR1 : Hid _ := r1
    have HR2 : Hid _ := r2
    clear r0 r1 r2
    go_wp2_with fail
    have r0 := HR0.out
    have r1 := HR1.out
    have r2 := HR2.out
    refine bodyPost_ret (v := .tuple #[.agg #[.int .i64 (f : Int), .int .i64 ((f : Int) + 1), .bool true], .bool true]) (by simp [results, Try.results100, go_sem, r0, r1, r2]) rfl ?_
    exact ⟨⟨rfl, hpf⟩, htf⟩
  cases h5 : digitHere s (a + 1 + 1)
  · have hr : countF s ⟨a, bk, sp⟩ = .no ⟨a + 1 + 1, bk, sp⟩ := by simp [countF, Sp.go, spanF, Sp.tell, h1, h2, h3, h4, h5]
    rw [hr]
    clear hr h
    go_enter Try.func100, Try.ntmps100
    go_upto_region 1 with fail
    rw [← hW]
    clear hW
    have HC1 := HD _ h0
    go_wp2_with fail
    refine HC1.mono ?_
    rintro e w1 ⟨rfl, hp1, ht1⟩
    clear HC1
    have hz1 := ht1.size
    have bb1 := (ht1.block _ (by omega) (by omega)).trans b0
    have tt1 := TW.tr ht1
    have HC2 := take_not hs h2 hp1
    go_wp2_with fail
    refine HC2.mono ?_
    rintro e w2 ⟨rfl, hp2, ht2⟩
    clear HC2
    have hz2 := ht2.size
    have bb2 := (ht2.block _ (by omega) (by omega)).trans bb1
    have tt2 := tt1.tr ht2
    have HC3 := take_yes hs h3 hp2
    go_wp2_with fail
    refine HC3.mono ?_
    rintro e w3 ⟨rfl, hp3, ht3⟩
    clear HC3
    have hz3 := ht3.size
    have bb3 := (ht3.block _ (by omega) (by omega)).trans bb2
    have tt3 := tt2.tr ht3
    have HC4 := take_not hs h4 hp3
    go_wp2_with fail
    refine HC4.mono ?_
    rintro e w4 ⟨rfl, hp4, ht4⟩
    clear HC4
    have hz4 := ht4.size
    have bb4 := (ht4.block _ (by omega) (by omega)).trans bb3
    have tt4 := tt3.tr ht4
    have HC5 := digit_not hs h5 hp4
    go_wp2_with fail
    refine HC5.mono ?_
    rintro e w5 ⟨rfl, hp5, ht5⟩
    clear HC5
    have hz5 := ht5.size
    have bb5 := (ht5.block _ (by omega) (by omega)).trans bb4
    have tt5 := tt4.tr ht5
    obtain ⟨q0, q1, q2, p0, p1, p2⟩ := cell_three' bb5
    obtain ⟨r0, r1, r2, hpf, htf⟩ := mark_fin hp5 tt5 (Nat.le_refl _) hbp bb5 (.int .i64 0) (.int .i64 0) (.bool false)
    have HR0 : Hid _ := r0
    have HR1 : Hid _ := r1
    have HR2 : Hid _ := r2
    clear r0 r1 r2
    go_wp2_with fail
    have r0 := HR0.out
    have r1 := HR1.out
    have r2 := HR2.out
    refine bodyPost_ret (v := .tuple #[.agg #[.int .i64 0, .int .i64 0, .bool false], .bool false]) (by simp [results, Try.results100, go_sem, r0, r1, r2]) rfl ?_
    exact ⟨⟨⟨_, _, _, rfl⟩, hpf⟩, htf⟩
  obtain ⟨g, HG⟩ : ∃ x, Hid (byteAt s (a + 1 + 1) - 48 = x) := ⟨_, rfl⟩
  have hg9 : g ≤ 9 := by have := digit_num h5; rw [HG.out] at this; omega
  have HE : ∀ w, ParAt w bp s (a + 1 + 1) vn bk (sp : Int) → _ := fun w h => digit_yes (w := w) hs h5 h
  rw [HG.out] at HE
  by_cases hlt : g < f
  · have hlt' : (g : Int) < (f : Int) := by omega
    obtain ⟨sq, HSQ⟩ : ∃ x, Hid ((if bk then sp else a) = x) := ⟨_, rfl⟩
    have HTL : ∀ w, ParAt w bp s (a + 1 + 1 + 1) vn bk (sp : Int) → _ := fun w h => tell_yes (w := w) (pl := a) h
    rw [HSQ.out] at HTL
    cases h6 : hit s (a + 1 + 1 + 1) 125
    · have hr : countF s ⟨a, bk, sp⟩ = .no ⟨a + 1 + 1 + 1, true, sq⟩ := by rw [← HSQ.out]; cases bk <;> simp [countF, Sp.go, spanF, Sp.tell, h1, h2, h3, h4, h5, h6, HF.out, HG.out, hlt]
      rw [hr]
      clear hr h
      go_enter Try.func100, Try.ntmps100
      go_upto_region 1 with fail
      rw [← hW]
      clear hW
      have HC1 := HD _ h0
      go_wp2_with fail
      refine HC1.mono ?_
      rintro e w1 ⟨rfl, hp1, ht1⟩
      clear HC1
      have hz1 := ht1.size
      have bb1 := (ht1.block _ (by omega) (by omega)).trans b0
      have tt1 := TW.tr ht1
      have HC2 := take_not hs h2 hp1
      go_wp2_with fail
      refine HC2.mono ?_
      rintro e w2 ⟨rfl, hp2, ht2⟩
      clear HC2
      have hz2 := ht2.size
      have bb2 := (ht2.block _ (by omega) (by omega)).trans bb1
      have tt2 := tt1.tr ht2
      have HC3 := take_yes hs h3 hp2
      go_wp2_with fail
      refine HC3.mono ?_
      rintro e w3 ⟨rfl, hp3, ht3⟩
      clear HC3
      have hz3 := ht3.size
      have bb3 := (ht3.block _ (by omega) (by omega)).trans bb2
      have tt3 := tt2.tr ht3
      have HC4 := take_not hs h4 hp3
      go_wp2_with fail
      refine HC4.mono ?_
      rintro e w4 ⟨rfl, hp4, ht4⟩
      clear HC4
      have hz4 := ht4.size
      have bb4 := (ht4.block _ (by omega) (by omega)).trans bb3
      have tt4 := tt3.tr ht4
      have HC5 := HE _ hp4
      go_wp2_with fail
      refine HC5.mono ?_
      rintro e w5 ⟨rfl, hp5, ht5⟩
      clear HC5
      have hz5 := ht5.size
      have bb5 := (ht5.block _ (by omega) (by omega)).trans bb4
      have tt5 := tt4.tr ht5
      have HC6 := HTL _ hp5
      go_wp2_with fail
      refine HC6.mono ?_
      rintro e w6 ⟨rfl, hp6, ht6⟩
      clear HC6
      have hz6 := ht6.size
      have bb6 := (ht6.block _ (by omega) (by omega)).trans bb5
      have tt6 := tt5.tr ht6
      have HC7 := take_not hs h6 hp6
      go_wp2_with fail
      refine HC7.mono ?_
      rintro e w7 ⟨rfl, hp7, ht7⟩
      clear HC7
      have hz7 := ht7.size
      have bb7 := (ht7.block _ (by omega) (by omega)).trans bb6
      have tt7 := tt6.tr ht7
      obtain ⟨q0, q1, q2, p0, p1, p2⟩ := cell_three' bb7
      obtain ⟨r0, r1, r2, hpf, htf⟩ := mark_fin hp7 tt7 (Nat.le_refl _) hbp bb7 (.int .i64 (f : Int)) (.int .i64 (g : Int)) (.bool false)
      have HR0 : Hid _ := r0
      have HR1 : Hid _ := r1
      have HR2 : Hid _ := r2
      clear r0 r1 r2
      go_wp2_with fail
      have r0 := HR0.out
      have r1 := HR1.out
      have r2 := HR2.out
      refine bodyPost_ret (v := .tuple #[.agg #[.int .i64 (f : Int), .int .i64 (g : Int), .bool false], .bool false]) (by simp [results, Try.results100, go_sem, r0, r1, r2]) rfl ?_
      exact ⟨⟨⟨_, _, _, rfl⟩, hpf⟩, htf⟩
    · have hr : countF s ⟨a, bk, sp⟩ = .ok (f, g, false) ⟨a + 1 + 1 + 1 + 1, true, sq⟩ := by rw [← HSQ.out]; cases bk <;> simp [countF, Sp.go, spanF, Sp.tell, h1, h2, h3, h4, h5, h6, HF.out, HG.out, hlt]
      rw [hr]
      clear hr h
      go_enter Try.func100, Try.ntmps100
      go_upto_region 1 with fail
      rw [← hW]
      clear hW
      have HC1 := HD _ h0
      go_wp2_with fail
      refine HC1.mono ?_
      rintro e w1 ⟨rfl, hp1, ht1⟩
      clear HC1
      have hz1 := ht1.size
      have bb1 := (ht1.block _ (by omega) (by omega)).trans b0
      have tt1 := TW.tr ht1
      have HC2 := take_not hs h2 hp1
      go_wp2_with fail
      refine HC2.mono ?_
      rintro e w2 ⟨rfl, hp2, ht2⟩
      clear HC2
      have hz2 := ht2.size
      have bb2 := (ht2.block _ (by omega) (by omega)).trans bb1
      have tt2 := tt1.tr ht2
      have HC3 := take_yes hs h3 hp2
      go_wp2_with fail
      refine HC3.mono ?_
      rintro e w3 ⟨rfl, hp3, ht3⟩
      clear HC3
      have hz3 := ht3.size
      have bb3 := (ht3.block _ (by omega) (by omega)).trans bb2
      have tt3 := tt2.tr ht3
      have HC4 := take_not hs h4 hp3
      go_wp2_with fail
      refine HC4.mono ?_
      rintro e w4 ⟨rfl, hp4, ht4⟩
      clear HC4
      have hz4 := ht4.size
      have bb4 := (ht4.block _ (by omega) (by omega)).trans bb3
      have tt4 := tt3.tr ht4
      have HC5 := HE _ hp4
      go_wp2_with fail
      refine HC5.mono ?_
      rintro e w5 ⟨rfl, hp5, ht5⟩
      clear HC5
      have hz5 := ht5.size
      have bb5 := (ht5.block _ (by omega) (by omega)).trans bb4
      have tt5 := tt4.tr ht5
      have HC6 := HTL _ hp5
      go_wp2_with fail
      refine HC6.mono ?_
      rintro e w6 ⟨rfl, hp6, ht6⟩
      clear HC6
      have hz6 := ht6.size
      have bb6 := (ht6.block _ (by omega) (by omega)).trans bb5
      have tt6 := tt5.tr ht6
      have HC7 := take_yes hs h6 hp6
      go_wp2_with fail
      refine HC7.mono ?_
      rintro e w7 ⟨rfl, hp7, ht7⟩
      clear HC7
      have hz7 := ht7.size
      have bb7 := (ht7.block _ (by omega) (by omega)).trans bb6
      have tt7 := tt6.tr ht7
      obtain ⟨q0, q1, q2, p0, p1, p2⟩ := cell_three' bb7
      obtain ⟨r0, r1, r2, hpf, htf⟩ := mark_fin hp7 tt7 (Nat.le_refl _) hbp bb7 (.int .i64 (f : Int)) (.int .i64 (g : Int)) (.bool false)
      have HR0 : Hid _ := r0
      have HR1 : Hid _ := r1
      have HR2 : Hid _ := r2
      clear r0 r1 r2
      go_wp2_with fail
      have r0 := HR0.out
      have r1 := HR1.out
      have r2 := HR2.out
      refine bodyPost_ret (v := .tuple #[.agg #[.int .i64 (f : Int), .int .i64 (g : Int), .bool false], .bool true]) (by simp [results, Try.results100, go_sem, r0, r1, r2]) rfl ?_
      exact ⟨⟨rfl, hpf⟩, htf⟩
  · have hlt' : ¬ (g : Int) < (f : Int) := by omega
    cases h6 : hit s (a + 1 + 1 + 1) 125
    · have hr : countF s ⟨a, bk, sp⟩ = .no ⟨a + 1 + 1 + 1, bk, sp⟩ := by simp [countF, Sp.go, spanF, Sp.tell, h1, h2, h3, h4, h5, h6, HF.out, HG.out, hlt]
      rw [hr]
      clear hr h
      go_enter Try.func100, Try.ntmps100
      go_upto_region 1 with fail
      rw [← hW]
      clear hW
      have HC1 := HD _ h0
      go_wp2_with fail
      refine HC1.mono ?_
      rintro e w1 ⟨rfl, hp1, ht1⟩
      clear HC1
      have hz1 := ht1.size
      have bb1 := (ht1.block _ (by omega) (by omega)).trans b0
      have tt1 := TW.tr ht1
      have HC2 := take_not hs h2 hp1
      go_wp2_with fail
      refine HC2.mono ?_
      rintro e w2 ⟨rfl, hp2, ht2⟩
      clear HC2
      have hz2 := ht2.size
      have bb2 := (ht2.block _ (by omega) (by omega)).trans bb1
      have tt2 := tt1.tr ht2
      have HC3 := take_yes hs h3 hp2
      go_wp2_with fail
      refine HC3.mono ?_
      rintro e w3 ⟨rfl, hp3, ht3⟩
      clear HC3
      have hz3 := ht3.size
      have bb3 := (ht3.block _ (by omega) (by omega)).trans bb2
      have tt3 := tt2.tr ht3
      have HC4 := take_not hs h4 hp3
      go_wp2_with fail
      refine HC4.mono ?_
      rintro e w4 ⟨rfl, hp4, ht4⟩
      clear HC4
      have hz4 := ht4.size
      have bb4 := (ht4.block _ (by omega) (by omega)).trans bb3
      have tt4 := tt3.tr ht4
      have HC5 := HE _ hp4
      go_wp2_with fail
      refine HC5.mono ?_
      rintro e w5 ⟨rfl, hp5, ht5⟩
      clear HC5
      have hz5 := ht5.size
      have bb5 := (ht5.block _ (by omega) (by omega)).trans bb4
      have tt5 := tt4.tr ht5
      have HC6 := take_not hs h6 hp5
      go_wp2_with fail
      refine HC6.mono ?_
      rintro e w6 ⟨rfl, hp6, ht6⟩
      clear HC6
      have hz6 := ht6.size
      have bb6 := (ht6.block _ (by omega) (by omega)).trans bb5
      have tt6 := tt5.tr ht6
      obtain ⟨q0, q1, q2, p0, p1, p2⟩ := cell_three' bb6
      obtain ⟨r0, r1, r2, hpf, htf⟩ := mark_fin hp6 tt6 (Nat.le_refl _) hbp bb6 (.int .i64 (f : Int)) (.int .i64 (g : Int)) (.bool false)
      have HR0 : Hid _ := r0
      have HR1 : Hid _ := r1
      have HR2 : Hid _ := r2
      clear r0 r1 r2
      go_wp2_with fail
      have r0 := HR0.out
      have r1 := HR1.out
      have r2 := HR2.out
      refine bodyPost_ret (v := .tuple #[.agg #[.int .i64 (f : Int), .int .i64 (g : Int), .bool false], .bool false]) (by simp [results, Try.results100, go_sem, r0, r1, r2]) rfl ?_
      exact ⟨⟨⟨_, _, _, rfl⟩, hpf⟩, htf⟩
    · have hr : countF s ⟨a, bk, sp⟩ = .ok (f, g, false) ⟨a + 1 + 1 + 1 + 1, bk, sp⟩ := by simp [countF, Sp.go, spanF, Sp.tell, h1, h2, h3, h4, h5, h6, HF.out, HG.out, hlt]
      rw [hr]
      clear hr h
      go_enter Try.func100, Try.ntmps100
      go_upto_region 1 with fail
      rw [← hW]
      clear hW
      have HC1 := HD _ h0
      go_wp2_with fail
      refine HC1.mono ?_
      rintro e w1 ⟨rfl, hp1, ht1⟩
      clear HC1
      have hz1 := ht1.size
      have bb1 := (ht1.block _ (by omega) (by omega)).trans b0
      have tt1 := TW.tr ht1
      have HC2 := take_not hs h2 hp1
      go_wp2_with fail
      refine HC2.mono ?_
      rintro e w2 ⟨rfl, hp2, ht2⟩
      clear HC2
      have hz2 := ht2.size
      have bb2 := (ht2.block _ (by omega) (by omega)).trans bb1
      have tt2 := tt1.tr ht2
      have HC3 := take_yes hs h3 hp2
      go_wp2_with fail
      refine HC3.mono ?_
      rintro e w3 ⟨rfl, hp3, ht3⟩
      clear HC3
      have hz3 := ht3.size
      have bb3 := (ht3.block _ (by omega) (by omega)).trans bb2
      have tt3 := tt2.tr ht3
      have HC4 := take_not hs h4 hp3
      go_wp2_with fail
      refine HC4.mono ?_
      rintro e w4 ⟨rfl, hp4, ht4⟩
      clear HC4
      have hz4 := ht4.size
      have bb4 := (ht4.block _ (by omega) (by omega)).trans bb3
      have tt4 := tt3.tr ht4
      have HC5 := HE _ hp4
      go_wp2_with fail
      refine HC5.mono ?_
      rintro e w5 ⟨rfl, hp5, ht5⟩
      clear HC5
      have hz5 := ht5.size
      have bb5 := (ht5.block _ (by omega) (by omega)).trans bb4
      have tt5 := tt4.tr ht5
      have HC6 := take_yes hs h6 hp5
      go_wp2_with fail
      refine HC6.mono ?_
      rintro e w6 ⟨rfl, hp6, ht6⟩
      clear HC6
      have hz6 := ht6.size
      have bb6 := (ht6.block _ (by omega) (by omega)).trans bb5
      have tt6 := tt5.tr ht6
      obtain ⟨q0, q1, q2, p0, p1, p2⟩ := cell_three' bb6
      obtain ⟨r0, r1, r2, hpf, htf⟩ := mark_fin hp6 tt6 (Nat.le_refl _) hbp bb6 (.int .i64 (f : Int)) (.int .i64 (g : Int)) (.bool false)
      have HR0 : Hid _ := r0
      have HR1 : Hid _ := r1
      have HR2 : Hid _ := r2
      clear r0 r1 r2
      go_wp2_with fail
      have r0 := HR0.out
      have r1 := HR1.out
      have r2 := HR2.out
      refine bodyPost_ret (v := .tuple #[.agg #[.int .i64 (f : Int), .int .i64 (g : Int), .bool false], .bool true]) (by simp [results, Try.results100, go_sem, r0, r1, r2]) rfl ?_
      exact ⟨⟨rfl, hpf⟩, htf⟩
end Go.Proofs.Ytpngikmcjkjdaab

namespace Go.Proofs.Ytpngikmcjkjdaab
open Go.RowKit
set_option linter.unusedVariables false
set_option linter.unusedSimpArgs false
def SetPost (bp : Nat) (s : ByteArray) (vn : Value) (r : Res (Nat → Bool)) (e : Ending) (w' : World) : Prop :=
  match r with
  | .no t => (∃ f, e = .returned (.tuple #[.agg (bools8 f), .bool false])) ∧ ParAt w' bp s t.a vn t.bk (t.sp : Int)
  | .ok N t => e = .returned (.tuple #[.agg (bools8 N), .bool true]) ∧ ParAt w' bp s t.a vn t.bk (t.sp : Int)
def atOf (w : World) (bp : Nat) : Nat := match w.cell? ⟨bp, 1, none⟩ with
  | some (.int _ a) => a.toNat
  | _ => 0
theorem ParAt.atOf {w : World} {bp : Nat} {s : ByteArray} {a : Nat} {vn : Value} {bk : Bool} {sp : Int} (h : ParAt w bp s a vn bk sp) : atOf w bp = a := by
  obtain ⟨_, x1, _⟩ := h.cells
  unfold Go.Proofs.Ytpngikmcjkjdaab.atOf; rw [x1]; simp
def finR (ob : Bool) (r : Res (Nat → Bool)) : Res (Nat → Bool) := match r with
  | .no t => .no t
  | .ok N t => .ok (if ob then fun c => !N c else N) t
theorem setF_fin (s : ByteArray) (t : Sp) : setF s t = finR (hit s t.a 94) (setLoop s (s.size + 1) (fun _ => false) (if hit s t.a 94 then t.go else t)) := by
  unfold setF finR
  cases hit s t.a 94
  · simp only [Bool.false_eq_true, if_false]; cases setLoop s (s.size + 1) (fun _ => false) t <;> rfl
  · simp only [if_true]; cases setLoop s (s.size + 1) (fun _ => false) t.go <;> rfl
structure SetSt (R : Res (Nat → Bool)) (w : World) (bp B : Nat) (s : ByteArray) (vn : Value) (wr : World) (N : Nat → Bool) (t1 : Sp) (cl : Bool) : Prop where
  rel : if cl then R = .ok N t1 else ∃ n, s.size - t1.a < n ∧ setLoop s n N t1 = R
  le : t1.a ≤ s.size
  touch : Touch (fun k => k = bp) w wr
  par : ParAt wr bp s t1.a vn t1.bk (t1.sp : Int)
  res : wr.rowIs B 88 8 (fun _ => .bool false)
  nts : wr.rowIs (B + 1) 88 8 (fun c => .bool (N c))
def toSpan (N : Nat → Bool) (f i : Nat) : Nat → Bool := fun c => N c || (decide (f ≤ c) && decide (c < i))
theorem toSpan_first (N : Nat → Bool) (f : Nat) : toSpan N f f = N := by
  funext c; unfold toSpan
  have : (decide (f ≤ c) && decide (c < f)) = false := by simp
  rw [this]; simp
theorem toSpan_step (N : Nat → Bool) {f i : Nat} (h : f ≤ i) (c : Nat) : toSpan N f (i + 1) c = if c = i then true else toSpan N f i c := by
  unfold toSpan
  by_cases e : c = i
  · subst e; simp [h]
  · rw [if_neg e]
    have : decide (c < i + 1) = decide (c < i) := by rw [decide_eq_decide]; omega
    rw [this]
theorem toSpan_last (N : Nat → Bool) {f g i : Nat} (h1 : f ≤ i) (h2 : ¬ i ≤ g) (h3 : i ≤ g + 1 ∨ i = f) : toSpan N f i = addSpan N f g := by
  funext c; unfold toSpan addSpan
  have : (decide (f ≤ c) && decide (c < i)) = (decide (f ≤ c) && decide (c ≤ g)) := by
    rw [Bool.eq_iff_iff]; simp; omega
  rw [this]
theorem SetSt.step {R : Res (Nat → Bool)} {w : World} {bp B : Nat} {s : ByteArray} {vn : Value} {wr w5 : World} {N : Nat → Bool} {t1 t2 : Sp} {f g : Nat} {cl : Bool} (h : SetSt R w bp B s vn wr N t1 false) (hp : partF s t1 = .ok (f, g) t2) (hcl : hit s t2.a 93 = cl)
    (ht : Touch (fun k => k = bp) w w5) (hpar : ParAt w5 bp s (if cl then (spanF t1.a f g t2).go else spanF t1.a f g t2).a vn (spanF t1.a f g t2).bk ((spanF t1.a f g t2).sp : Int)) (hres : w5.rowIs B 88 8 (fun _ => .bool false)) (hnts : w5.rowIs (B + 1) 88 8 (fun c => .bool (addSpan N f g c))) :
    SetSt R w bp B s vn w5 (addSpan N f g) (if cl then (spanF t1.a f g t2).go else spanF t1.a f g t2) cl := by
  have hok := partF_ok hp
  have hrel := h.rel
  simp only [Bool.false_eq_true, if_false] at hrel
  obtain ⟨n, hn, hR⟩ := hrel
  obtain ⟨n, rfl⟩ : ∃ m, n = m + 1 := ⟨n - 1, by omega⟩
  simp only [setLoop, hp, hcl] at hR
  cases cl
  · simp only [Bool.false_eq_true, if_false] at hR hpar ⊢
    exact ⟨by simp only [Bool.false_eq_true, if_false]; exact ⟨n, by simp only [spanF_a]; omega, hR⟩, by simp only [spanF_a]; omega, ht, hpar, hres, hnts⟩
  · simp only [if_true] at hR hpar ⊢
    have hl := hit_lt hcl
    exact ⟨by simp only [if_true]; exact hR.symm, by simp only [go_a, spanF_a]; omega, ht, hpar, hres, hnts⟩
theorem SetSt.fail {R : Res (Nat → Bool)} {w : World} {bp B : Nat} {s : ByteArray} {vn : Value} {wr : World} {N : Nat → Bool} {t1 t2 : Sp} (h : SetSt R w bp B s vn wr N t1 false) (hp : partF s t1 = .no t2) : R = .no t2 := by
  have hrel := h.rel
  simp only [Bool.false_eq_true, if_false] at hrel
  obtain ⟨n, hn, hR⟩ := hrel
  obtain ⟨n, rfl⟩ : ∃ m, n = m + 1 := ⟨n - 1, by omega⟩
  simp only [setLoop, hp] at hR
  exact hR.symm
theorem put8b_par {w : World} {b bp : Nat} {s : ByteArray} {a : Nat} {vn : Value} {bk : Bool} {sp : Int} (f : Nat → Bool) (h : ParAt w bp s a vn bk sp) (hb : bp ≠ b) : ParAt (put8b w b f) bp s a vn bk sp := by
  unfold put8b
  exact (((((((h.other hb _).other hb _).other hb _).other hb _).other hb _).other hb _).other hb _).other hb _
set_option maxRecDepth 20000 in
set_option maxHeartbeats 8000000 in
theorem set_ok (bp : Nat) (s : ByteArray) (t : Sp) (vn : Value) (w : World) (hs : s.size ≤ 40) (hta : t.a ≤ s.size) (h : ParAt w bp s t.a vn t.bk (t.sp : Int)) :
    Calls Try.prog 102 #[.pointer (some ⟨bp, 0, none⟩)] w fun e w' => SetPost bp s vn (setF s t) e w' ∧ Touch (fun k => k = bp) w w' := by
  have hbp : bp < w.heap.size := heap_lt h
  obtain ⟨W, hW⟩ : ∃ W, W = (w.alloc (.cells (bools8 (fun _ => false)) 88)).alloc (.cells (bools8 (fun _ => false)) 88) := ⟨_, rfl⟩
  have TW : Touch (fun k => k = bp) w W := by rw [hW]; exact ((Touch.refl _ _).alloc _).alloc _
  have hWs : W.heap.size = w.heap.size + 1 + 1 := by rw [hW]; simp
  have b0 : W.heap[w.heap.size]? = some (.cells (bools8 (fun _ => false)) 88 (0, 0)) := by rw [hW]; exact heap_at_old (heap_at_new rfl)
  have b1 : W.heap[w.heap.size + 1]? = some (.cells (bools8 (fun _ => false)) 88 (0, 0)) := by rw [hW]; exact heap_at_new (by simp)
  have h0 : ParAt W bp s t.a vn t.bk (t.sp : Int) := h.block (by rw [hW]; exact (Below.heap_alloc _ _ bp (by simp; omega)).trans (Below.heap_alloc w _ bp hbp))
  rw [setF_fin]
  have HTK := take_ok bp s t.a 94 vn t.bk (t.sp : Int) W hs h0
  obtain ⟨t0, HT0⟩ : ∃ x, Hid ((if hit s t.a 94 then t.go else t) = x) := ⟨_, rfl⟩
  have e1 : (if hit s t.a 94 then t.a + 1 else t.a) = t0.a := by rw [← HT0.out]; cases hit s t.a 94 <;> rfl
  have e2 : t.bk = t0.bk := by rw [← HT0.out]; cases hit s t.a 94 <;> rfl
  have e3 : t.sp = t0.sp := by rw [← HT0.out]; cases hit s t.a 94 <;> rfl
  have e4 : t0.a ≤ s.size := by
    rw [← HT0.out]
    cases hb : hit s t.a 94
    · exact hta
    · exact hit_lt hb
  rw [e1, e2, e3] at HTK
  rw [HT0.out]
  obtain ⟨R, HR⟩ : ∃ x, Hid (setLoop s (s.size + 1) (fun _ => false) t0 = x) := ⟨_, rfl⟩
  rw [HR.out]
  obtain ⟨ob, HOB⟩ : ∃ x, Hid (hit s t.a 94 = x) := ⟨_, rfl⟩
  rw [HOB.out] at HTK ⊢
  clear e1 e2 e3 h h0
  simp only [show bools8 (fun _ => false) = #[.bool false, .bool false, .bool false, .bool false, .bool false, .bool false, .bool false, .bool false] from rfl] at hW
  go_enter Try.func102, Try.ntmps102
  go_upto_region 2 with fail
  rw [← hW]
  clear hW
  go_wp2_with fail
  refine HTK.mono ?_
  clear HTK
  rintro e w1 ⟨rfl, hp1, ht1⟩
  have S0 : SetSt R w bp w.heap.size s vn w1 (fun _ => false) t0 false := ⟨by simp only [Bool.false_eq_true, if_false]; exact ⟨_, by omega, HR.out⟩, e4, TW.tr ht1, hp1, ht1.row (bools8_is b0) (by omega), ht1.row (bools8_is b1) (by omega)⟩
  clear hp1 ht1 b0 b1 TW HR HT0 HOB e4 hta
  go_wp2_with fail
  go_loopw [6, 7, 8, 9, 10, 11] (fun cl' _ _ _ _ _ wr => ∃ (N : Nat → Bool) (t1 : Sp) (cl : Bool), cl' = .bool cl ∧ SetSt R w bp w.heap.size s vn wr N t1 cl) (fun _ _ _ _ _ _ wr => 100 - atOf wr bp)
  case atStart => exact ⟨_, _, _, rfl, S0⟩
  case round =>
    clear S0
    obtain ⟨N, t1, cl, rfl, hS⟩ := hrel
    have HP := hS.par
    have HT := hS.touch
    have hle := hS.le
    have hsz := HT.size
    have hsr := hS.res.lt
    have hsn := hS.nts.lt
    have hat := HP.atOf
    have HAT : Hid _ := hat
    clear hat
    cases cl
    · obtain ⟨_, x1, _, _, _, _, _, _⟩ := HP.cells
      have HC := part_ok bp s t1 vn wr hs HP
      cases hr : partF s t1 with
      | no t2 =>
        have hR := hS.fail hr
        have HS : Hid _ := hS
        rw [hr] at HC
        subst hR
        clear hS hr
        go_wp2_with fail
        refine HC.mono ?_
        clear HC
        rintro e w2 ⟨⟨⟨fv, gv, rfl⟩, hp2⟩, ht2⟩
        have r0 := ht2.row HS.out.res (by omega)
        have r1 := ht2.row HS.out.nts (by omega)
        obtain ⟨c0, c1, c2, c3, c4, c5, c6, c7⟩ := rowIs8b r1
        obtain ⟨d0, d1, d2, d3, d4, d5, d6, d7⟩ := rowIs8b (f := fun _ => false) r0
        obtain ⟨f0, f1, f2, f3, f4, f5, f6, f7⟩ := rowIs8f r0
        have HR0 : Hid _ := r0
        have HP2 : Hid _ := hp2
        have HT2 : Hid _ := HT.tr ht2
        clear r0 r1 HP HT HS hp2 ht2 x1 HAT
        go_wp2_with fail
        obtain ⟨W9, hW9⟩ : ∃ W9, W9 = put8b w2 w.heap.size N := ⟨_, rfl⟩
        have hr9 := put8b_row N HR0.out
        have hp9 := put8b_par (b := w.heap.size) N HP2.out (by omega)
        have ht9 := put8b_touch (b := w.heap.size) N HT2.out (.inr (Nat.le_refl _))
        rw [← hW9] at hr9 hp9 ht9
        unfold put8b at hW9
        rw [← hW9]
        clear hW9 c0 c1 c2 c3 c4 c5 c6 c7
        obtain ⟨c0, c1, c2, c3, c4, c5, c6, c7⟩ := rowIs8b hr9
        refine bodyPost_ret (v := .tuple #[.agg (bools8 N), .bool false]) (by simp [results, Try.results102, go_sem, bools8, c0, c1, c2, c3, c4, c5, c6, c7]) rfl ?_
        exact ⟨⟨⟨N, rfl⟩, hp9⟩, ht9⟩
      | ok x t2 =>
        obtain ⟨f, g⟩ := x
        have hok := partF_ok hr
        rw [hr] at HC
        have HS : Hid _ := hS
        have HPT : Hid _ := hr
        clear hS hr
        go_wp2_with fail
        refine HC.mono ?_
        clear HC
        rintro e w2 ⟨⟨rfl, hp2⟩, ht2⟩
        have r0 := ht2.row HS.out.res (by omega)
        have r1 := ht2.row HS.out.nts (by omega)
        have tt := HT.tr ht2
        clear HP HT x1 ht2
        by_cases hlt : g < f
        · have hlt2 : (g : Int) < (f : Int) := by omega
          obtain ⟨sq, HSQ⟩ : ∃ x, Hid ((if t2.bk then t2.sp else t1.a) = x) := ⟨_, rfl⟩
          have HTL := tell_yes (pl := t1.a) hp2
          rw [HSQ.out] at HTL
          go_wp2_with fail
          refine HTL.mono ?_
          clear HTL
          rintro e w3 ⟨rfl, hp3, ht3⟩
          have hq3 : ParAt w3 bp s (spanF t1.a f g t2).a vn (spanF t1.a f g t2).bk ((spanF t1.a f g t2).sp : Int) := by
            unfold spanF; rw [if_pos hlt]
            show ParAt w3 bp s t2.a vn true (((if t2.bk then t2.sp else t1.a : Nat) : Nat) : Int)
            rw [HSQ.out]; exact hp3
          replace r0 := ht3.row r0 (by omega)
          replace r1 := ht3.row r1 (by omega)
          replace tt := tt.tr ht3
          clear hp2 hp3 ht3
          have hz2 := tt.size
          obtain ⟨t3, HT3⟩ : ∃ x, Hid (spanF t1.a f g t2 = x) := ⟨_, rfl⟩
          have hp3 : ParAt w3 bp s t3.a vn t3.bk (t3.sp : Int) := by rw [← HT3.out]; exact hq3
          have ha3 : t3.a = t2.a := by rw [← HT3.out]; simp
          clear hq3
          go_wp2_with fail
          go_loopw [11] (fun i' wr => ∃ i : Nat, i' = .int .i64 (i : Int) ∧ f ≤ i ∧ (i ≤ g + 1 ∨ i = f) ∧ i ≤ 9 ∧ Touch (fun k => k = bp) w wr ∧ ParAt wr bp s t3.a vn t3.bk (t3.sp : Int) ∧ wr.rowIs w.heap.size 88 8 (fun _ => .bool false) ∧ wr.rowIs (w.heap.size + 1) 88 8 (fun c => .bool (toSpan N f i c))) (fun i' _ => 20 - (intOf i').toNat)
          case atStart => exact ⟨f, rfl, Nat.le_refl _, .inr rfl, by omega, tt, hp3, r0, by rw [toSpan_first]; exact r1⟩
          case round =>
            clear tt hp3 r0 r1
            obtain ⟨i, rfl, hfi, hig, hi9, tt, hp3, r0, r1⟩ := hrel
            have hz3 := tt.size
            by_cases hle2 : i ≤ g
            · exfalso; omega
            · have hle3 : ¬ (i : Int) ≤ (g : Int) := by omega
              have hN : toSpan N f i = addSpan N f g := toSpan_last N hfi hle2 hig
              have r1' : wr.rowIs (w.heap.size + 1) 88 8 (fun c => .bool (addSpan N f g c)) := by rw [← hN]; exact r1
              have HC := take_ok bp s t3.a 93 vn t3.bk (t3.sp : Int) wr hs hp3
              obtain ⟨cl, HCL⟩ : ∃ x, Hid (hit s t3.a 93 = x) := ⟨_, rfl⟩
              rw [HCL.out] at HC
              have HTT : Hid _ := tt
              have HR0 : Hid _ := r0
              have HR1 : Hid _ := r1'
              clear hp3 tt r0 r1 hN r1'
              go_wp2_with fail
              refine HC.mono ?_
              clear HC
              rintro e w5 ⟨rfl, hp5, ht5⟩
              have hS5 : SetSt R w bp w.heap.size s vn w5 (addSpan N f g) (if cl then (spanF t1.a f g t2).go else spanF t1.a f g t2) cl := by
                refine HS.out.step HPT.out (by rw [← ha3]; exact HCL.out) (HTT.out.tr ht5) ?_ (ht5.row HR0.out (by omega)) (ht5.row HR1.out (by omega))
                rw [HT3.out]
                cases cl
                · exact hp5
                · exact hp5
              have hat5 := hS5.par.atOf
              have hgo5 : t1.a < (if cl then (spanF t1.a f g t2).go else spanF t1.a f g t2).a := by
                cases cl
                · simp only [Bool.false_eq_true, if_false, spanF_a]; omega
                · simp only [if_true, go_a, spanF_a]; omega
              go_wp2_with fail
              go_roundw
              case rel => exact ⟨_, _, _, rfl, hS5⟩
              case measure =>
                have := HAT.out
                omega
        · have hlt2 : ¬ (g : Int) < (f : Int) := by omega
          have hq3 : ParAt w2 bp s (spanF t1.a f g t2).a vn (spanF t1.a f g t2).bk ((spanF t1.a f g t2).sp : Int) := by
            unfold spanF; rw [if_neg hlt]; exact hp2
          obtain ⟨w3, HW3⟩ : ∃ x, Hid (w2 = x) := ⟨_, rfl⟩
          rw [HW3.out] at hq3 r0 r1 tt ⊢
          clear hp2
          have hz2 := tt.size
          obtain ⟨t3, HT3⟩ : ∃ x, Hid (spanF t1.a f g t2 = x) := ⟨_, rfl⟩
          have hp3 : ParAt w3 bp s t3.a vn t3.bk (t3.sp : Int) := by rw [← HT3.out]; exact hq3
          have ha3 : t3.a = t2.a := by rw [← HT3.out]; simp
          clear hq3
          go_wp2_with fail
          go_loopw [11] (fun i' wr => ∃ i : Nat, i' = .int .i64 (i : Int) ∧ f ≤ i ∧ (i ≤ g + 1 ∨ i = f) ∧ i ≤ 9 ∧ Touch (fun k => k = bp) w wr ∧ ParAt wr bp s t3.a vn t3.bk (t3.sp : Int) ∧ wr.rowIs w.heap.size 88 8 (fun _ => .bool false) ∧ wr.rowIs (w.heap.size + 1) 88 8 (fun c => .bool (toSpan N f i c))) (fun i' _ => 20 - (intOf i').toNat)
          case atStart => exact ⟨f, rfl, Nat.le_refl _, .inr rfl, by omega, tt, hp3, r0, by rw [toSpan_first]; exact r1⟩
          case round =>
            clear tt hp3 r0 r1
            obtain ⟨i, rfl, hfi, hig, hi9, tt, hp3, r0, r1⟩ := hrel
            have hz3 := tt.size
            by_cases hle2 : i ≤ g
            · have c1 := r1.cell (i := i) (by omega)
              have c2 := r1.frozen i
              have hle3 : (i : Int) ≤ (g : Int) := by omega
              have HP3 : Hid (ParAt wr bp s t3.a vn t3.bk (t3.sp : Int)) := hp3
              have HT4 : Hid _ := tt
              have HR0 : Hid (wr.rowIs w.heap.size 88 8 (fun _ => .bool false)) := r0
              have HR1 : Hid (wr.rowIs (w.heap.size + 1) 88 8 (fun c => .bool (toSpan N f i c))) := r1
              clear hp3 tt r0 r1
              go_wp2_with fail
              go_roundw
              case rel =>
                refine ⟨i + 1, by go_num, by omega, by omega, by omega, HT4.out.set _ _ (.inr (by simp)), HP3.out.other (by simp; omega) _, HR0.out.setOther (by simp) _, (HR1.out.set i _).congr (fun c _ => ?_)⟩
                rw [toSpan_step N hfi c]
                by_cases e : c = i <;> simp [e]
              case measure => simp [intOf]; omega
            · have hle3 : ¬ (i : Int) ≤ (g : Int) := by omega
              have hN : toSpan N f i = addSpan N f g := toSpan_last N hfi hle2 hig
              have r1' : wr.rowIs (w.heap.size + 1) 88 8 (fun c => .bool (addSpan N f g c)) := by rw [← hN]; exact r1
              have HC := take_ok bp s t3.a 93 vn t3.bk (t3.sp : Int) wr hs hp3
              obtain ⟨cl, HCL⟩ : ∃ x, Hid (hit s t3.a 93 = x) := ⟨_, rfl⟩
              rw [HCL.out] at HC
              have HTT : Hid _ := tt
              have HR0 : Hid _ := r0
              have HR1 : Hid _ := r1'
              clear hp3 tt r0 r1 hN r1'
              go_wp2_with fail
              refine HC.mono ?_
              clear HC
              rintro e w5 ⟨rfl, hp5, ht5⟩
              have hS5 : SetSt R w bp w.heap.size s vn w5 (addSpan N f g) (if cl then (spanF t1.a f g t2).go else spanF t1.a f g t2) cl := by
                refine HS.out.step HPT.out (by rw [← ha3]; exact HCL.out) (HTT.out.tr ht5) ?_ (ht5.row HR0.out (by omega)) (ht5.row HR1.out (by omega))
                rw [HT3.out]
                cases cl
                · exact hp5
                · exact hp5
              have hat5 := hS5.par.atOf
              have hgo5 : t1.a < (if cl then (spanF t1.a f g t2).go else spanF t1.a f g t2).a := by
                cases cl
                · simp only [Bool.false_eq_true, if_false, spanF_a]; omega
                · simp only [if_true, go_a, spanF_a]; omega
              go_wp2_with fail
              go_roundw
              case rel => exact ⟨_, _, _, rfl, hS5⟩
              case measure =>
                have := HAT.out
                omega
    · have hR : R = .ok N t1 := hS.rel
      have r0 := hS.res
      have r1 := hS.nts
      obtain ⟨c0, c1, c2, c3, c4, c5, c6, c7⟩ := rowIs8b r1
      obtain ⟨d0, d1, d2, d3, d4, d5, d6, d7⟩ := rowIs8b (f := fun _ => false) r0
      obtain ⟨f0, f1, f2, f3, f4, f5, f6, f7⟩ := rowIs8f r0
      have HR0 : Hid (wr.rowIs w.heap.size 88 8 (fun _ => .bool false)) := r0
      have HP2 : Hid (ParAt wr bp s t1.a vn t1.bk (t1.sp : Int)) := HP
      have HT2 : Hid (Touch (fun k => k = bp) w wr) := HT
      clear r0 r1 HP HT hS
      subst hR
      cases ob
      · go_wp2_with fail
        obtain ⟨W9, hW9⟩ : ∃ W9, W9 = put8b wr w.heap.size N := ⟨_, rfl⟩
        have hr9 := put8b_row N HR0.out
        have hp9 := put8b_par (b := w.heap.size) N HP2.out (by omega)
        have ht9 := put8b_touch (b := w.heap.size) N HT2.out (.inr (Nat.le_refl _))
        rw [← hW9] at hr9 hp9 ht9
        unfold put8b at hW9
        rw [← hW9]
        clear hW9 c0 c1 c2 c3 c4 c5 c6 c7
        obtain ⟨c0, c1, c2, c3, c4, c5, c6, c7⟩ := rowIs8b hr9
        refine bodyPost_ret (v := .tuple #[.agg (bools8 N), .bool true]) (by simp [results, Try.results102, go_sem, bools8, c0, c1, c2, c3, c4, c5, c6, c7]) rfl ?_
        exact ⟨⟨rfl, hp9⟩, ht9⟩
      · obtain ⟨M, HM⟩ : ∃ M : Nat → Bool, Hid ((fun c => !N c) = M) := ⟨_, rfl⟩
        have HC := others_ok N wr
        rw [HM.out] at HC
        unfold bools8 at HC
        go_wp2_with fail
        refine HC.mono ?_
        clear HC
        rintro e w5 ⟨rfl, hb5⟩
        have r0 := HR0.out.of_block (hb5.block _ HR0.out.lt)
        have hp5 := HP2.out.block (hb5.block _ (by omega))
        have ht5 : Touch (fun k => k = bp) w w5 := HT2.out.tr (below_touch hb5)
        clear d0 d1 d2 d3 d4 d5 d6 d7 f0 f1 f2 f3 f4 f5 f6 f7 c0 c1 c2 c3 c4 c5 c6 c7
        obtain ⟨d0, d1, d2, d3, d4, d5, d6, d7⟩ := rowIs8b (f := fun _ => false) r0
        obtain ⟨f0, f1, f2, f3, f4, f5, f6, f7⟩ := rowIs8f r0
        have HR5 : Hid _ := r0
        have HP5 : Hid _ := hp5
        have HT5 : Hid _ := ht5
        clear r0 hp5 ht5 hb5 HR0 HP2 HT2
        go_wp2_with fail
        obtain ⟨W9, hW9⟩ : ∃ W9, W9 = put8b w5 w.heap.size M := ⟨_, rfl⟩
        have hr9 := put8b_row M HR5.out
        have hp9 := put8b_par (b := w.heap.size) M HP5.out (by omega)
        have ht9 := put8b_touch (b := w.heap.size) M HT5.out (.inr (Nat.le_refl _))
        rw [← hW9] at hr9 hp9 ht9
        unfold put8b at hW9
        rw [← hW9]
        clear hW9
        obtain ⟨c0, c1, c2, c3, c4, c5, c6, c7⟩ := rowIs8b hr9
        refine bodyPost_ret (v := .tuple #[.agg (bools8 M), .bool true]) (by simp [results, Try.results102, go_sem, bools8, c0, c1, c2, c3, c4, c5, c6, c7]) rfl ?_
        refine ⟨⟨?_, hp9⟩, ht9⟩
        simp only [if_true]
        rw [HM.out]
end Go.Proofs.Ytpngikmcjkjdaab

namespace Go.Proofs.Ytpngikmcjkjdaab
set_option linter.unusedVariables false
def isNoteN (c : Nat) : Bool := decide (97 ≤ c) && decide (c ≤ 104)
def isDigitN (c : Nat) : Bool := decide (48 ≤ c) && decide (c ≤ 57)
def itemA (q d c : Nat) : Nat × Nat :=
  if isNoteN c || c == 46 then (1, d)
  else if c == 91 then (3, d)
  else if c == 40 && decide (d < 6) then (0, d + 1)
  else if c == 41 && decide (0 < d) then (1, d - 1)
  else if c == 124 then (0, d)
  else if q == 1 && (c == 42 || c == 43 || c == 63) then (2, d)
  else if q == 1 && c == 123 then (8, d)
  else (12, d)
def setA (q c : Nat) : Nat :=
  if c == 94 && q == 3 then 4
  else if isNoteN c && q == 6 then 7
  else if isNoteN c then 5
  else if c == 45 && q == 5 then 6
  else if c == 93 && (q == 5 || q == 7) then 1
  else 12
def markA (q c : Nat) : Nat :=
  if isDigitN c && q == 8 then 9
  else if isDigitN c && q == 10 then 11
  else if c == 44 && q == 9 then 10
  else if c == 125 && q != 8 then 2
  else 12
def aut (q d c : Nat) : Nat × Nat := if q ≤ 2 then itemA q d c else if q ≤ 7 then (setA q c, d) else (markA q c, d)
inductive At (s : ByteArray) : Nat → Nat → Nat → Prop where
  | zero : At s 0 0 0
  | step {a q d q' d' : Nat} (h : At s a q d) (hlt : a < s.size) (ha : aut q d (byteAt s a) = (q', d')) (hq : q' ≠ 12) : At s (a + 1) q' d'
theorem At.back {s : ByteArray} {a q d : Nat} (h : At s a q d) {b : Nat} (hb : b < a) : ∃ q' d' q'' d'', At s b q' d' ∧ aut q' d' (byteAt s b) = (q'', d'') ∧ q'' ≠ 12 ∧ b < s.size := by
  induction h with
  | zero => omega
  | step h1 hlt ha hq ih =>
    rename_i a _ _ _ _
    by_cases e : b = a
    · subst e; exact ⟨_, _, _, _, h1, ha, hq, hlt⟩
    · exact ih (by omega)
theorem At.le {s : ByteArray} {a q d : Nat} (h : At s a q d) : a ≤ s.size := by cases h with
  | zero => omega
  | step _ hlt _ _ => omega
def Stuck (s : ByteArray) (a : Nat) : Prop := ∃ q d, At s a q d ∧ ((a < s.size ∧ (aut q d (byteAt s a)).1 = 12) ∨ (a = s.size ∧ (2 < q ∨ 0 < d)))
theorem Stuck.mk {s : ByteArray} {a q d : Nat} (h : At s a q d) (h1 : a < s.size → (aut q d (byteAt s a)).1 = 12) (h2 : a = s.size → 2 < q ∨ 0 < d) : Stuck s a := by
  have := h.le
  by_cases e : a < s.size
  · exact ⟨q, d, h, .inl ⟨e, h1 e⟩⟩
  · exact ⟨q, d, h, .inr ⟨by omega, h2 (by omega)⟩⟩
def BkT (s : ByteArray) (i : Nat) : Bool :=
  (decide (i + 2 < s.size) && (byteAt s (i + 1) == 45) && decide (byteAt s (i + 2) < byteAt s i)) ||
  (isDigitN (byteAt s i) && decide (i + 2 < s.size) && (byteAt s (i + 1) == 44) && (byteAt s (i + 2) != 125) && decide (byteAt s (i + 2) < byteAt s i))
theorem BkT.off {s : ByteArray} {i : Nat} (h : byteAt s (i + 1) ≠ 45) (h' : byteAt s (i + 1) ≠ 44) : BkT s i = false := by
  unfold BkT
  rw [show (byteAt s (i + 1) == 45) = false by simpa using h, show (byteAt s (i + 1) == 44) = false by simpa using h']
  simp
structure Good (s : ByteArray) (t : Sp) (q d : Nat) : Prop where
  at_ : At s t.a q d
  yes : t.bk = true → BkT s t.sp = true ∧ ∀ j, j < t.sp → BkT s j = false
  no : t.bk = false → ∀ j, j + 1 < t.a → BkT s j = false
theorem Good.le {s : ByteArray} {t : Sp} {q d : Nat} (h : Good s t q d) : t.a ≤ s.size := h.at_.le
theorem Good.step {s : ByteArray} {t : Sp} {q d q' d' : Nat} (h : Good s t q d) (hlt : t.a < s.size) (ha : aut q d (byteAt s t.a) = (q', d')) (hq : q' ≠ 12) (h1 : byteAt s t.a ≠ 45) (h2 : byteAt s t.a ≠ 44) : Good s t.go q' d' := by
  refine ⟨h.at_.step hlt ha hq, h.yes, fun hb j hj => ?_⟩
  simp only [go_a] at hj
  by_cases e : j + 1 = t.a
  · exact BkT.off (by rw [e]; exact h1) (by rw [e]; exact h2)
  · exact h.no hb j (by omega)
theorem note_eq (s : ByteArray) (a : Nat) : noteHere s a = isNoteN (byteAt s a) := rfl
theorem digit_eq (s : ByteArray) (a : Nat) : digitHere s a = isDigitN (byteAt s a) := rfl
theorem noteN_iff {c : Nat} : isNoteN c = true ↔ 97 ≤ c ∧ c ≤ 104 := by unfold isNoteN; simp
theorem digitN_iff {c : Nat} : isDigitN c = true ↔ 48 ≤ c ∧ c ≤ 57 := by unfold isDigitN; simp
def parseF (s : ByteArray) : Res Pat := patF s (atomF s 6) ⟨0, false, 0⟩
end Go.Proofs.Ytpngikmcjkjdaab
