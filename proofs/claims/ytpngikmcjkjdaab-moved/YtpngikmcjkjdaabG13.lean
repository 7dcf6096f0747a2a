import Derived.Deep.RegionWith
import Derived.Test.YtpngikmcjkjdaabG10
import Derived.Test.YtpngikmcjkjdaabG12
set_option linter.unusedVariables false
set_option linter.unusedSimpArgs false
namespace Go.Proofs.Ytpngikmcjkjdaab
open Go.RowKit
set_option linter.unusedVariables false
set_option linter.unusedSimpArgs false
theorem ParM.touched {w w1 : World} {bp : Nat} {s : ByteArray} {t t1 : Sp} {vn : Value} {L : List Nd} (h : ParM w bp s t vn L) (hp : ParAt w1 bp s t1.a vn t1.bk (t1.sp : Int)) (ht : Touch (fun k => k = bp) w w1) : ParM w1 bp s t1 vn L :=
  ⟨hp, ht.own h.own (fun g hg e => by have := (h.own.lt g hg).1; have e' : g = bp := e; omega)⟩
theorem touch_bp {w w1 : World} {bp : Nat} (ht : Touch (fun k => k = bp) w w1) (hbp : bp < w.heap.size) : Below bp w w1 := ht.below (Below.refl bp w) (by omega) (fun k e => by have e' : k = bp := e; omega)
def PPost (bp : Nat) (s : ByteArray) (L : List Nd) (bound : Nat) (r : Res Pat) (w : World) (e : Ending) (w' : World) : Prop :=
  match r with
  | .no t' => (∃ v : Int, e = .returned (.tuple #[.int .i64 v, .bool false])) ∧ (∃ vn' L', ParM w' bp s t' vn' L') ∧ Below bp w w'
  | .ok p t' => ∃ (i : Nat) (vn' : Value) (M : List Nd), e = .returned (.tuple #[.int .i64 (i : Int), .bool true]) ∧ ParM w' bp s t' vn' (L ++ M) ∧ NodeIs (L ++ M) i p ∧ M.length + 4 * (s.size - t'.a) ≤ bound ∧ Below bp w w'
def AtomC (k : Nat) : Prop := ∀ (bp : Nat) (s : ByteArray) (t : Sp) (vn : Value) (L : List Nd) (w : World) (d : Int), d = 6 - (k : Int) → s.size ≤ 40 → t.a ≤ s.size → L.length + 4 * (s.size - t.a) ≤ 900 → ParM w bp s t vn L →
  Calls Try.prog 98 #[.pointer (some ⟨bp, 0, none⟩), .int .i64 d] w (PPost bp s L (4 * (s.size - t.a) - 2) (atomF s k t) w)
def PatC (k : Nat) : Prop := ∀ (bp : Nat) (s : ByteArray) (t : Sp) (vn : Value) (L : List Nd) (w : World) (d : Int), d = 6 - (k : Int) → s.size ≤ 40 → t.a ≤ s.size → L.length + 4 * (s.size - t.a) ≤ 897 → ParM w bp s t vn L →
  Calls Try.prog 69 #[.pointer (some ⟨bp, 0, none⟩), .int .i64 d] w (PPost bp s L (4 * (s.size - t.a) + 1) (patF s (atomF s k) t) w)
theorem single_is (L : List Nd) (f : Nat → Bool) : NodeIs (L ++ [⟨1, 1, f, 0, 0, false, 0, 0⟩]) L.length (.one f) := .one (d := ⟨1, 1, f, 0, 0, false, 0, 0⟩) (by simp) rfl rfl rfl
theorem PPost.single {bp : Nat} {s : ByteArray} {t t' : Sp} {L : List Nd} {f : Nat → Bool} {w w1 w2 : World} {e : Ending} (hb : Below bp w w1) (ha : AddPost bp s t' L ⟨1, 1, f, 0, 0, false, 0, 0⟩ w1 e w2) (h1 : t.a < t'.a) (h2 : t'.a ≤ s.size) :
    ∃ vn' : Value, e = .returned (.int .i64 ((L.length : Nat) : Int)) ∧ PPost bp s L (4 * (s.size - t.a) - 2) (.ok (.one f) t') w (.returned (.tuple #[.int .i64 ((L.length : Nat) : Int), .bool true])) w2 := by
  obtain ⟨rfl, vn', hp, hb2⟩ := ha
  exact ⟨vn', rfl, L.length, vn', [⟨1, 1, f, 0, 0, false, 0, 0⟩], rfl, hp, single_is L f, by simp; omega, hb.trans hb2⟩
set_option maxRecDepth 20000 in
set_option maxHeartbeats 8000000 in
theorem atom_zero : AtomC 0 := by
  intro bp s t vn L w d hd hs hta hM hm0
  obtain rfl : d = 6 := by omega
  clear hd
  have hb0 : Below bp w w := Below.refl _ _
  simp only [atomF]
  cases h1 : hit s t.a 91
  rotate_left 1
  · have l1 := hit_lt h1
    cases hr : setF s t.go with
    | no t2 =>
      have hR : atom0 s t = .no t2 := by unfold atom0; rw [if_pos h1, hr]
      rw [hR]
      clear hR
      go_enter Try.func98, Try.ntmps98
      have HC1 := take_yes hs h1 hm0.par
      go_wp2_with fail
      refine HC1.mono ?_
      clear HC1
      rintro e w1 ⟨rfl, hq1, ht1⟩
      have hm1 : ParM w1 bp s t.go vn L := hm0.touched hq1 ht1
      have hb1 : Below bp w w1 := hb0.trans (touch_bp ht1 hm0.lt)
      clear hq1 ht1
      have HC2 := set_ok bp s t.go vn w1 hs (by simp only [go_a]; omega) hm1.par
      rw [hr] at HC2
      clear hr
      go_wp2_with fail
      refine HC2.mono ?_
      clear HC2
      rintro e w2 ⟨⟨⟨f, rfl⟩, hq2⟩, ht2⟩
      have hm2 : ParM w2 bp s t2 vn L := hm1.touched hq2 ht2
      have hb2 : Below bp w w2 := hb1.trans (touch_bp ht2 hm1.lt)
      unfold bools8
      go_wp2_with fail
      go_ret2
      exact ⟨⟨_, rfl⟩, ⟨_, _, hm2.below ((Below.refl _ _).alloc (Nat.le_refl _) _)⟩, hb2.alloc (Nat.le_of_lt hm2.lt) _⟩
    | ok N t2 =>
      have hgo := setF_ok hr
      have hR : atom0 s t = .ok (.one N) t2 := by unfold atom0; rw [if_pos h1, hr]
      rw [hR]
      clear hR
      go_enter Try.func98, Try.ntmps98
      have HC1 := take_yes hs h1 hm0.par
      go_wp2_with fail
      refine HC1.mono ?_
      clear HC1
      rintro e w1 ⟨rfl, hq1, ht1⟩
      have hm1 : ParM w1 bp s t.go vn L := hm0.touched hq1 ht1
      have hb1 : Below bp w w1 := hb0.trans (touch_bp ht1 hm0.lt)
      clear hq1 ht1
      have HC2 := set_ok bp s t.go vn w1 hs (by simp only [go_a]; omega) hm1.par
      rw [hr] at HC2
      clear hr
      go_wp2_with fail
      refine HC2.mono ?_
      clear HC2
      rintro e w2 ⟨⟨rfl, hq2⟩, ht2⟩
      have hm2 : ParM w2 bp s t2 vn L := hm1.touched hq2 ht2
      have hb2 : Below bp w w2 := hb1.trans (touch_bp ht2 hm1.lt)
      clear hq2 ht2
      unfold bools8
      obtain ⟨W8, hW8⟩ : ∃ W, W = w2.alloc (.cells (bools8 N) 88) := ⟨_, rfl⟩
      have B8 : Below w2.heap.size w2 W8.drew := by rw [hW8]; exact ((Below.refl _ _).alloc (Nat.le_refl _) _).drew
      have k8 : W8.heap[w2.heap.size]? = some (.cells (bools8 N) 88 (0, 0)) := by rw [hW8]; exact heap_at_new (by simp)
      obtain ⟨c0, c1, c2, c3, c4, c5, c6, c7⟩ := rowIs8b (bools8_is k8)
      have HC8 := addSingle_ok bp s t2 vn L N W8.drew (hm2.below B8) (by omega)
      have hb8 : Below bp w W8.drew := hb2.trans (B8.mono (Nat.le_of_lt hm2.lt))
      unfold bools8 at HC8 hW8
      have hs8 : w2.heap.size < W8.heap.size := heap_lt k8
      have hs9 : bp < w2.heap.size := hm2.lt
      clear k8 B8
      go_wp2_with fail
      rw [← hW8]
      clear hW8
      go_region_with (go_at_call 103; refine HC8.mono ?_; intro e w9 hp9; obtain ⟨vn9, rfl, hf9⟩ := PPost.single (t := t) hb8 hp9 (by simp only [go_a] at *; omega) (by simp only [go_a] at *; omega); have HF : Hid _ := hf9; clear hf9 hp9)
      go_wp2_with fail
      go_ret2
      exact HF.out
  cases h2 : hit s t.a 46
  rotate_left 1
  · have l2 := hit_lt h2
    have hR : atom0 s t = .ok (.one (fun _ => true)) t.go := by unfold atom0; rw [if_neg (by rw [h1]; exact Bool.false_ne_true), if_pos h2]
    rw [hR]
    clear hR
    go_enter Try.func98, Try.ntmps98
    have HC1 := take_not hs h1 hm0.par
    go_wp2_with fail
    refine HC1.mono ?_
    clear HC1
    rintro e w1 ⟨rfl, hq1, ht1⟩
    have hm1 : ParM w1 bp s t vn L := hm0.touched hq1 ht1
    have hb1 : Below bp w w1 := hb0.trans (touch_bp ht1 hm0.lt)
    clear hq1 ht1
    have HC2 := take_yes hs h2 hm1.par
    go_wp2_with fail
    refine HC2.mono ?_
    clear HC2
    rintro e w2 ⟨rfl, hq2, ht2⟩
    have hm2 : ParM w2 bp s t.go vn L := hm1.touched hq2 ht2
    have hb2 : Below bp w w2 := hb1.trans (touch_bp ht2 hm1.lt)
    clear hq2 ht2
    obtain ⟨W6, hW6⟩ : ∃ W, W = w2.alloc (.cells (bools8 (fun _ => false)) 88) := ⟨_, rfl⟩
    have B6 : Below w2.heap.size w2 W6 := by rw [hW6]; exact (Below.refl _ _).alloc (Nat.le_refl _) _
    have k6 : W6.heap[w2.heap.size]? = some (.cells (bools8 (fun _ => false)) 88 (0, 0)) := by rw [hW6]; exact heap_at_new (by simp)
    obtain ⟨c0, c1, c2, c3, c4, c5, c6, c7⟩ := rowIs8b (f := fun _ => false) (bools8_is k6)
    have HO := others_ok (fun _ => false) W6
    simp only [Bool.not_false] at HO
    have hm6 := hm2.below B6
    have hb6 : Below bp w W6 := hb2.trans (B6.mono (Nat.le_of_lt hm2.lt))
    simp only [show bools8 (fun _ => false) = #[.bool false, .bool false, .bool false, .bool false, .bool false, .bool false, .bool false, .bool false] from rfl] at hW6 HO
    clear k6
    go_upto_region 13 with fail
    rw [← hW6]
    clear hW6
    go_wp2_with fail
    refine HO.mono ?_
    clear HO
    rintro e w7 ⟨rfl, hB7⟩
    have hm7 := hm6.below hB7
    have hb7 : Below bp w w7 := hb6.trans (hB7.mono (Nat.le_of_lt hm6.lt))
    clear c0 c1 c2 c3 c4 c5 c6 c7 hB7
    obtain ⟨W8, hW8⟩ : ∃ W, W = w7.alloc (.cells (bools8 (fun _ => true)) 88) := ⟨_, rfl⟩
    have B8 : Below w7.heap.size w7 W8.drew := by rw [hW8]; exact ((Below.refl _ _).alloc (Nat.le_refl _) _).drew
    have k8 : W8.heap[w7.heap.size]? = some (.cells (bools8 (fun _ => true)) 88 (0, 0)) := by rw [hW8]; exact heap_at_new (by simp)
    obtain ⟨c0, c1, c2, c3, c4, c5, c6, c7⟩ := rowIs8b (bools8_is k8)
    have HC8 := addSingle_ok bp s t.go vn L (fun _ => true) W8.drew (hm7.below B8) (by omega)
    have hb8 : Below bp w W8.drew := hb7.trans (B8.mono (Nat.le_of_lt hm7.lt))
    unfold bools8 at HC8 hW8
    have hs8 : w7.heap.size < W8.heap.size := heap_lt k8
    have hs9 : bp < w7.heap.size := hm7.lt
    clear k8 B8
    simp only [show bools8 (fun _ => true) = #[.bool true, .bool true, .bool true, .bool true, .bool true, .bool true, .bool true, .bool true] from rfl]
    go_wp2_with fail
    rw [← hW8]
    clear hW8
    go_region_with (go_at_call 103; refine HC8.mono ?_; intro e w9 hp9; obtain ⟨vn9, rfl, hf9⟩ := PPost.single (t := t) hb8 hp9 (by simp only [go_a] at *; omega) (by simp only [go_a] at *; omega); have HF : Hid _ := hf9; clear hf9 hp9)
    go_wp2_with fail
    go_ret2
    exact HF.out
  cases h3 : noteHere s t.a
  · skip
    have hR : atom0 s t = .no t := by unfold atom0; rw [if_neg (by rw [h1]; exact Bool.false_ne_true), if_neg (by rw [h2]; exact Bool.false_ne_true), if_neg (by rw [h3]; exact Bool.false_ne_true)]
    rw [hR]
    clear hR
    go_enter Try.func98, Try.ntmps98
    have HC1 := take_not hs h1 hm0.par
    go_wp2_with fail
    refine HC1.mono ?_
    clear HC1
    rintro e w1 ⟨rfl, hq1, ht1⟩
    have hm1 : ParM w1 bp s t vn L := hm0.touched hq1 ht1
    have hb1 : Below bp w w1 := hb0.trans (touch_bp ht1 hm0.lt)
    clear hq1 ht1
    have HC2 := take_not hs h2 hm1.par
    go_wp2_with fail
    refine HC2.mono ?_
    clear HC2
    rintro e w2 ⟨rfl, hq2, ht2⟩
    have hm2 : ParM w2 bp s t vn L := hm1.touched hq2 ht2
    have hb2 : Below bp w w2 := hb1.trans (touch_bp ht2 hm1.lt)
    clear hq2 ht2
    have HC3 := note_not hs h3 hm2.par
    go_wp2_with fail
    refine HC3.mono ?_
    clear HC3
    rintro e w3 ⟨rfl, hq3, ht3⟩
    have hm3 : ParM w3 bp s t vn L := hm2.touched hq3 ht3
    have hb3 : Below bp w w3 := hb2.trans (touch_bp ht3 hm2.lt)
    clear hq3 ht3
    go_wp2_with fail
    go_ret2
    exact ⟨⟨_, rfl⟩, ⟨_, _, hm3⟩, hb3⟩
  · have l3 := note_lt h3
    have n3 := (note_num h3).1
    obtain ⟨c, HCC⟩ : ∃ x, Hid (byteAt s t.a - 97 = x) := ⟨_, rfl⟩
    rw [HCC.out] at n3
    have hR : atom0 s t = .ok (.one (fun x => decide (x = c))) t.go := by unfold atom0; rw [if_neg (by rw [h1]; exact Bool.false_ne_true), if_neg (by rw [h2]; exact Bool.false_ne_true), if_pos h3, HCC.out]
    rw [hR]
    clear hR
    go_enter Try.func98, Try.ntmps98
    have HC1 := take_not hs h1 hm0.par
    go_wp2_with fail
    refine HC1.mono ?_
    clear HC1
    rintro e w1 ⟨rfl, hq1, ht1⟩
    have hm1 : ParM w1 bp s t vn L := hm0.touched hq1 ht1
    have hb1 : Below bp w w1 := hb0.trans (touch_bp ht1 hm0.lt)
    clear hq1 ht1
    have HC2 := take_not hs h2 hm1.par
    go_wp2_with fail
    refine HC2.mono ?_
    clear HC2
    rintro e w2 ⟨rfl, hq2, ht2⟩
    have hm2 : ParM w2 bp s t vn L := hm1.touched hq2 ht2
    have hb2 : Below bp w w2 := hb1.trans (touch_bp ht2 hm1.lt)
    clear hq2 ht2
    have HC3 := note_yes hs h3 hm2.par
    rw [HCC.out] at HC3
    go_wp2_with fail
    refine HC3.mono ?_
    clear HC3
    rintro e w3 ⟨rfl, hq3, ht3⟩
    have hm3 : ParM w3 bp s t.go vn L := hm2.touched hq3 ht3
    have hb3 : Below bp w w3 := hb2.trans (touch_bp ht3 hm2.lt)
    clear hq3 ht3
    have hcs : c = 0 ∨ c = 1 ∨ c = 2 ∨ c = 3 ∨ c = 4 ∨ c = 5 ∨ c = 6 ∨ c = 7 := by omega
    clear HCC n3
    rcases hcs with rfl | rfl | rfl | rfl | rfl | rfl | rfl | rfl
    · obtain ⟨W8, hW8⟩ : ∃ W, W = w3.alloc (.cells (bools8 (fun x => decide (x = 0))) 88) := ⟨_, rfl⟩
      have B8 : Below w3.heap.size w3 W8.drew := by rw [hW8]; exact ((Below.refl _ _).alloc (Nat.le_refl _) _).drew
      have k8 : W8.heap[w3.heap.size]? = some (.cells (bools8 (fun x => decide (x = 0))) 88 (0, 0)) := by rw [hW8]; exact heap_at_new (by simp)
      obtain ⟨c0, c1, c2, c3, c4, c5, c6, c7⟩ := rowIs8b (bools8_is k8)
      have HC8 := addSingle_ok bp s t.go vn L (fun x => decide (x = 0)) W8.drew (hm3.below B8) (by omega)
      have hb8 : Below bp w W8.drew := hb3.trans (B8.mono (Nat.le_of_lt hm3.lt))
      unfold bools8 at HC8 hW8
      have hs8 : w3.heap.size < W8.heap.size := heap_lt k8
      have hs9 : bp < w3.heap.size := hm3.lt
      clear k8 B8
      simp at c0 c1 c2 c3 c4 c5 c6 c7
      simp at HC8 hW8
      go_wp2_with fail
      rw [← hW8]
      clear hW8
      go_region_with (go_at_call 103; refine HC8.mono ?_; intro e w9 hp9; obtain ⟨vn9, rfl, hf9⟩ := PPost.single (t := t) hb8 hp9 (by simp only [go_a] at *; omega) (by simp only [go_a] at *; omega); have HF : Hid _ := hf9; clear hf9 hp9)
      go_wp2_with fail
      go_ret2
      exact HF.out
    · obtain ⟨W8, hW8⟩ : ∃ W, W = w3.alloc (.cells (bools8 (fun x => decide (x = 1))) 88) := ⟨_, rfl⟩
      have B8 : Below w3.heap.size w3 W8.drew := by rw [hW8]; exact ((Below.refl _ _).alloc (Nat.le_refl _) _).drew
      have k8 : W8.heap[w3.heap.size]? = some (.cells (bools8 (fun x => decide (x = 1))) 88 (0, 0)) := by rw [hW8]; exact heap_at_new (by simp)
      obtain ⟨c0, c1, c2, c3, c4, c5, c6, c7⟩ := rowIs8b (bools8_is k8)
      have HC8 := addSingle_ok bp s t.go vn L (fun x => decide (x = 1)) W8.drew (hm3.below B8) (by omega)
      have hb8 : Below bp w W8.drew := hb3.trans (B8.mono (Nat.le_of_lt hm3.lt))
      unfold bools8 at HC8 hW8
      have hs8 : w3.heap.size < W8.heap.size := heap_lt k8
      have hs9 : bp < w3.heap.size := hm3.lt
      clear k8 B8
      simp at c0 c1 c2 c3 c4 c5 c6 c7
      simp at HC8 hW8
      go_wp2_with fail
      rw [← hW8]
      clear hW8
      go_region_with (go_at_call 103; refine HC8.mono ?_; intro e w9 hp9; obtain ⟨vn9, rfl, hf9⟩ := PPost.single (t := t) hb8 hp9 (by simp only [go_a] at *; omega) (by simp only [go_a] at *; omega); have HF : Hid _ := hf9; clear hf9 hp9)
      go_wp2_with fail
      go_ret2
      exact HF.out
    · obtain ⟨W8, hW8⟩ : ∃ W, W = w3.alloc (.cells (bools8 (fun x => decide (x = 2))) 88) := ⟨_, rfl⟩
      have B8 : Below w3.heap.size w3 W8.drew := by rw [hW8]; exact ((Below.refl _ _).alloc (Nat.le_refl _) _).drew
      have k8 : W8.heap[w3.heap.size]? = some (.cells (bools8 (fun x => decide (x = 2))) 88 (0, 0)) := by rw [hW8]; exact heap_at_new (by simp)
      obtain ⟨c0, c1, c2, c3, c4, c5, c6, c7⟩ := rowIs8b (bools8_is k8)
      have HC8 := addSingle_ok bp s t.go vn L (fun x => decide (x = 2)) W8.drew (hm3.below B8) (by omega)
      have hb8 : Below bp w W8.drew := hb3.trans (B8.mono (Nat.le_of_lt hm3.lt))
      unfold bools8 at HC8 hW8
      have hs8 : w3.heap.size < W8.heap.size := heap_lt k8
      have hs9 : bp < w3.heap.size := hm3.lt
      clear k8 B8
      simp at c0 c1 c2 c3 c4 c5 c6 c7
      simp at HC8 hW8
      go_wp2_with fail
      rw [← hW8]
      clear hW8
      go_region_with (go_at_call 103; refine HC8.mono ?_; intro e w9 hp9; obtain ⟨vn9, rfl, hf9⟩ := PPost.single (t := t) hb8 hp9 (by simp only [go_a] at *; omega) (by simp only [go_a] at *; omega); have HF : Hid _ := hf9; clear hf9 hp9)
      go_wp2_with fail
      go_ret2
      exact HF.out
    · obtain ⟨W8, hW8⟩ : ∃ W, W = w3.alloc (.cells (bools8 (fun x => decide (x = 3))) 88) := ⟨_, rfl⟩
      have B8 : Below w3.heap.size w3 W8.drew := by rw [hW8]; exact ((Below.refl _ _).alloc (Nat.le_refl _) _).drew
      have k8 : W8.heap[w3.heap.size]? = some (.cells (bools8 (fun x => decide (x = 3))) 88 (0, 0)) := by rw [hW8]; exact heap_at_new (by simp)
      obtain ⟨c0, c1, c2, c3, c4, c5, c6, c7⟩ := rowIs8b (bools8_is k8)
      have HC8 := addSingle_ok bp s t.go vn L (fun x => decide (x = 3)) W8.drew (hm3.below B8) (by omega)
      have hb8 : Below bp w W8.drew := hb3.trans (B8.mono (Nat.le_of_lt hm3.lt))
      unfold bools8 at HC8 hW8
      have hs8 : w3.heap.size < W8.heap.size := heap_lt k8
      have hs9 : bp < w3.heap.size := hm3.lt
      clear k8 B8
      simp at c0 c1 c2 c3 c4 c5 c6 c7
      simp at HC8 hW8
      go_wp2_with fail
      rw [← hW8]
      clear hW8
      go_region_with (go_at_call 103; refine HC8.mono ?_; intro e w9 hp9; obtain ⟨vn9, rfl, hf9⟩ := PPost.single (t := t) hb8 hp9 (by simp only [go_a] at *; omega) (by simp only [go_a] at *; omega); have HF : Hid _ := hf9; clear hf9 hp9)
      go_wp2_with fail
      go_ret2
      exact HF.out
    · obtain ⟨W8, hW8⟩ : ∃ W, W = w3.alloc (.cells (bools8 (fun x => decide (x = 4))) 88) := ⟨_, rfl⟩
      have B8 : Below w3.heap.size w3 W8.drew := by rw [hW8]; exact ((Below.refl _ _).alloc (Nat.le_refl _) _).drew
      have k8 : W8.heap[w3.heap.size]? = some (.cells (bools8 (fun x => decide (x = 4))) 88 (0, 0)) := by rw [hW8]; exact heap_at_new (by simp)
      obtain ⟨c0, c1, c2, c3, c4, c5, c6, c7⟩ := rowIs8b (bools8_is k8)
      have HC8 := addSingle_ok bp s t.go vn L (fun x => decide (x = 4)) W8.drew (hm3.below B8) (by omega)
      have hb8 : Below bp w W8.drew := hb3.trans (B8.mono (Nat.le_of_lt hm3.lt))
      unfold bools8 at HC8 hW8
      have hs8 : w3.heap.size < W8.heap.size := heap_lt k8
      have hs9 : bp < w3.heap.size := hm3.lt
      clear k8 B8
      simp at c0 c1 c2 c3 c4 c5 c6 c7
      simp at HC8 hW8
      go_wp2_with fail
      rw [← hW8]
      clear hW8
      go_region_with (go_at_call 103; refine HC8.mono ?_; intro e w9 hp9; obtain ⟨vn9, rfl, hf9⟩ := PPost.single (t := t) hb8 hp9 (by simp only [go_a] at *; omega) (by simp only [go_a] at *; omega); have HF : Hid _ := hf9; clear hf9 hp9)
      go_wp2_with fail
      go_ret2
      exact HF.out
    · obtain ⟨W8, hW8⟩ : ∃ W, W = w3.alloc (.cells (bools8 (fun x => decide (x = 5))) 88) := ⟨_, rfl⟩
      have B8 : Below w3.heap.size w3 W8.drew := by rw [hW8]; exact ((Below.refl _ _).alloc (Nat.le_refl _) _).drew
      have k8 : W8.heap[w3.heap.size]? = some (.cells (bools8 (fun x => decide (x = 5))) 88 (0, 0)) := by rw [hW8]; exact heap_at_new (by simp)
      obtain ⟨c0, c1, c2, c3, c4, c5, c6, c7⟩ := rowIs8b (bools8_is k8)
      have HC8 := addSingle_ok bp s t.go vn L (fun x => decide (x = 5)) W8.drew (hm3.below B8) (by omega)
      have hb8 : Below bp w W8.drew := hb3.trans (B8.mono (Nat.le_of_lt hm3.lt))
      unfold bools8 at HC8 hW8
      have hs8 : w3.heap.size < W8.heap.size := heap_lt k8
      have hs9 : bp < w3.heap.size := hm3.lt
      clear k8 B8
      simp at c0 c1 c2 c3 c4 c5 c6 c7
      simp at HC8 hW8
      go_wp2_with fail
      rw [← hW8]
      clear hW8
      go_region_with (go_at_call 103; refine HC8.mono ?_; intro e w9 hp9; obtain ⟨vn9, rfl, hf9⟩ := PPost.single (t := t) hb8 hp9 (by simp only [go_a] at *; omega) (by simp only [go_a] at *; omega); have HF : Hid _ := hf9; clear hf9 hp9)
      go_wp2_with fail
      go_ret2
      exact HF.out
    · obtain ⟨W8, hW8⟩ : ∃ W, W = w3.alloc (.cells (bools8 (fun x => decide (x = 6))) 88) := ⟨_, rfl⟩
      have B8 : Below w3.heap.size w3 W8.drew := by rw [hW8]; exact ((Below.refl _ _).alloc (Nat.le_refl _) _).drew
      have k8 : W8.heap[w3.heap.size]? = some (.cells (bools8 (fun x => decide (x = 6))) 88 (0, 0)) := by rw [hW8]; exact heap_at_new (by simp)
      obtain ⟨c0, c1, c2, c3, c4, c5, c6, c7⟩ := rowIs8b (bools8_is k8)
      have HC8 := addSingle_ok bp s t.go vn L (fun x => decide (x = 6)) W8.drew (hm3.below B8) (by omega)
      have hb8 : Below bp w W8.drew := hb3.trans (B8.mono (Nat.le_of_lt hm3.lt))
      unfold bools8 at HC8 hW8
      have hs8 : w3.heap.size < W8.heap.size := heap_lt k8
      have hs9 : bp < w3.heap.size := hm3.lt
      clear k8 B8
      simp at c0 c1 c2 c3 c4 c5 c6 c7
      simp at HC8 hW8
      go_wp2_with fail
      rw [← hW8]
      clear hW8
      go_region_with (go_at_call 103; refine HC8.mono ?_; intro e w9 hp9; obtain ⟨vn9, rfl, hf9⟩ := PPost.single (t := t) hb8 hp9 (by simp only [go_a] at *; omega) (by simp only [go_a] at *; omega); have HF : Hid _ := hf9; clear hf9 hp9)
      go_wp2_with fail
      go_ret2
      exact HF.out
    · obtain ⟨W8, hW8⟩ : ∃ W, W = w3.alloc (.cells (bools8 (fun x => decide (x = 7))) 88) := ⟨_, rfl⟩
      have B8 : Below w3.heap.size w3 W8.drew := by rw [hW8]; exact ((Below.refl _ _).alloc (Nat.le_refl _) _).drew
      have k8 : W8.heap[w3.heap.size]? = some (.cells (bools8 (fun x => decide (x = 7))) 88 (0, 0)) := by rw [hW8]; exact heap_at_new (by simp)
      obtain ⟨c0, c1, c2, c3, c4, c5, c6, c7⟩ := rowIs8b (bools8_is k8)
      have HC8 := addSingle_ok bp s t.go vn L (fun x => decide (x = 7)) W8.drew (hm3.below B8) (by omega)
      have hb8 : Below bp w W8.drew := hb3.trans (B8.mono (Nat.le_of_lt hm3.lt))
      unfold bools8 at HC8 hW8
      have hs8 : w3.heap.size < W8.heap.size := heap_lt k8
      have hs9 : bp < w3.heap.size := hm3.lt
      clear k8 B8
      simp at c0 c1 c2 c3 c4 c5 c6 c7
      simp at HC8 hW8
      go_wp2_with fail
      rw [← hW8]
      clear hW8
      go_region_with (go_at_call 103; refine HC8.mono ?_; intro e w9 hp9; obtain ⟨vn9, rfl, hf9⟩ := PPost.single (t := t) hb8 hp9 (by simp only [go_a] at *; omega) (by simp only [go_a] at *; omega); have HF : Hid _ := hf9; clear hf9 hp9)
      go_wp2_with fail
      go_ret2
      exact HF.out
set_option maxRecDepth 20000 in
set_option maxHeartbeats 8000000 in
theorem atom_succ (k : Nat) (hk : k < 6) (HP : PatC k) : AtomC (k + 1) := by
  intro bp s t vn L w d hd hs hta hM hm0
  have hb0 : Below bp w w := Below.refl _ _
  have hd6 : d < 6 := by omega
  have hd0 : 0 ≤ d := by omega
  have HD : Hid (d = 6 - ((k + 1 : Nat) : Int)) := hd
  clear hd
  simp only [atomF]
  cases h0 : hit s t.a 40
  · simp only [Bool.false_eq_true, if_false]
    cases h1 : hit s t.a 91
    rotate_left 1
    · have l1 := hit_lt h1
      cases hr : setF s t.go with
      | no t2 =>
        have hR : atom0 s t = .no t2 := by unfold atom0; rw [if_pos h1, hr]
        rw [hR]
        clear hR
        go_enter Try.func98, Try.ntmps98
        have HC1 := take_not hs h0 hm0.par
        go_wp2_with fail
        refine HC1.mono ?_
        clear HC1
        rintro e w1 ⟨rfl, hq1, ht1⟩
        have hm1 : ParM w1 bp s t vn L := hm0.touched hq1 ht1
        have hb1 : Below bp w w1 := hb0.trans (touch_bp ht1 hm0.lt)
        clear hq1 ht1
        have HC2 := take_yes hs h1 hm1.par
        go_wp2_with fail
        refine HC2.mono ?_
        clear HC2
        rintro e w2 ⟨rfl, hq2, ht2⟩
        have hm2 : ParM w2 bp s t.go vn L := hm1.touched hq2 ht2
        have hb2 : Below bp w w2 := hb1.trans (touch_bp ht2 hm1.lt)
        clear hq2 ht2
        have HC3 := set_ok bp s t.go vn w2 hs (by simp only [go_a]; omega) hm2.par
        rw [hr] at HC3
        clear hr
        go_wp2_with fail
        refine HC3.mono ?_
        clear HC3
        rintro e w3 ⟨⟨⟨f, rfl⟩, hq3⟩, ht3⟩
        have hm3 : ParM w3 bp s t2 vn L := hm2.touched hq3 ht3
        have hb3 : Below bp w w3 := hb2.trans (touch_bp ht3 hm2.lt)
        unfold bools8
        go_wp2_with fail
        go_ret2
        exact ⟨⟨_, rfl⟩, ⟨_, _, hm3.below ((Below.refl _ _).alloc (Nat.le_refl _) _)⟩, hb3.alloc (Nat.le_of_lt hm3.lt) _⟩
      | ok N t2 =>
        have hgo := setF_ok hr
        have hR : atom0 s t = .ok (.one N) t2 := by unfold atom0; rw [if_pos h1, hr]
        rw [hR]
        clear hR
        go_enter Try.func98, Try.ntmps98
        have HC1 := take_not hs h0 hm0.par
        go_wp2_with fail
        refine HC1.mono ?_
        clear HC1
        rintro e w1 ⟨rfl, hq1, ht1⟩
        have hm1 : ParM w1 bp s t vn L := hm0.touched hq1 ht1
        have hb1 : Below bp w w1 := hb0.trans (touch_bp ht1 hm0.lt)
        clear hq1 ht1
        have HC2 := take_yes hs h1 hm1.par
        go_wp2_with fail
        refine HC2.mono ?_
        clear HC2
        rintro e w2 ⟨rfl, hq2, ht2⟩
        have hm2 : ParM w2 bp s t.go vn L := hm1.touched hq2 ht2
        have hb2 : Below bp w w2 := hb1.trans (touch_bp ht2 hm1.lt)
        clear hq2 ht2
        have HC3 := set_ok bp s t.go vn w2 hs (by simp only [go_a]; omega) hm2.par
        rw [hr] at HC3
        clear hr
        go_wp2_with fail
        refine HC3.mono ?_
        clear HC3
        rintro e w3 ⟨⟨rfl, hq3⟩, ht3⟩
        have hm3 : ParM w3 bp s t2 vn L := hm2.touched hq3 ht3
        have hb3 : Below bp w w3 := hb2.trans (touch_bp ht3 hm2.lt)
        clear hq3 ht3
        unfold bools8
        obtain ⟨W8, hW8⟩ : ∃ W, W = w3.alloc (.cells (bools8 N) 88) := ⟨_, rfl⟩
        have B8 : Below w3.heap.size w3 W8.drew := by rw [hW8]; exact ((Below.refl _ _).alloc (Nat.le_refl _) _).drew
        have k8 : W8.heap[w3.heap.size]? = some (.cells (bools8 N) 88 (0, 0)) := by rw [hW8]; exact heap_at_new (by simp)
        obtain ⟨c0, c1, c2, c3, c4, c5, c6, c7⟩ := rowIs8b (bools8_is k8)
        have HC8 := addSingle_ok bp s t2 vn L N W8.drew (hm3.below B8) (by omega)
        have hb8 : Below bp w W8.drew := hb3.trans (B8.mono (Nat.le_of_lt hm3.lt))
        unfold bools8 at HC8 hW8
        have hs8 : w3.heap.size < W8.heap.size := heap_lt k8
        have hs9 : bp < w3.heap.size := hm3.lt
        clear k8 B8
        go_wp2_with fail
        rw [← hW8]
        clear hW8
        go_region_with (go_at_call 103; refine HC8.mono ?_; intro e w9 hp9; obtain ⟨vn9, rfl, hf9⟩ := PPost.single (t := t) hb8 hp9 (by simp only [go_a] at *; omega) (by simp only [go_a] at *; omega); have HF : Hid _ := hf9; clear hf9 hp9)
        go_wp2_with fail
        go_ret2
        exact HF.out
    cases h2 : hit s t.a 46
    rotate_left 1
    · have l2 := hit_lt h2
      have hR : atom0 s t = .ok (.one (fun _ => true)) t.go := by unfold atom0; rw [if_neg (by rw [h1]; exact Bool.false_ne_true), if_pos h2]
      rw [hR]
      clear hR
      go_enter Try.func98, Try.ntmps98
      have HC1 := take_not hs h0 hm0.par
      go_wp2_with fail
      refine HC1.mono ?_
      clear HC1
      rintro e w1 ⟨rfl, hq1, ht1⟩
      have hm1 : ParM w1 bp s t vn L := hm0.touched hq1 ht1
      have hb1 : Below bp w w1 := hb0.trans (touch_bp ht1 hm0.lt)
      clear hq1 ht1
      have HC2 := take_not hs h1 hm1.par
      go_wp2_with fail
      refine HC2.mono ?_
      clear HC2
      rintro e w2 ⟨rfl, hq2, ht2⟩
      have hm2 : ParM w2 bp s t vn L := hm1.touched hq2 ht2
      have hb2 : Below bp w w2 := hb1.trans (touch_bp ht2 hm1.lt)
      clear hq2 ht2
      have HC3 := take_yes hs h2 hm2.par
      go_wp2_with fail
      refine HC3.mono ?_
      clear HC3
      rintro e w3 ⟨rfl, hq3, ht3⟩
      have hm3 : ParM w3 bp s t.go vn L := hm2.touched hq3 ht3
      have hb3 : Below bp w w3 := hb2.trans (touch_bp ht3 hm2.lt)
      clear hq3 ht3
      obtain ⟨W6, hW6⟩ : ∃ W, W = w3.alloc (.cells (bools8 (fun _ => false)) 88) := ⟨_, rfl⟩
      have B6 : Below w3.heap.size w3 W6 := by rw [hW6]; exact (Below.refl _ _).alloc (Nat.le_refl _) _
      have k6 : W6.heap[w3.heap.size]? = some (.cells (bools8 (fun _ => false)) 88 (0, 0)) := by rw [hW6]; exact heap_at_new (by simp)
      obtain ⟨c0, c1, c2, c3, c4, c5, c6, c7⟩ := rowIs8b (f := fun _ => false) (bools8_is k6)
      have HO := others_ok (fun _ => false) W6
      simp only [Bool.not_false] at HO
      have hm6 := hm3.below B6
      have hb6 : Below bp w W6 := hb3.trans (B6.mono (Nat.le_of_lt hm3.lt))
      simp only [show bools8 (fun _ => false) = #[.bool false, .bool false, .bool false, .bool false, .bool false, .bool false, .bool false, .bool false] from rfl] at hW6 HO
      clear k6
      go_upto_region 13 with fail
      rw [← hW6]
      clear hW6
      go_wp2_with fail
      refine HO.mono ?_
      clear HO
      rintro e w7 ⟨rfl, hB7⟩
      have hm7 := hm6.below hB7
      have hb7 : Below bp w w7 := hb6.trans (hB7.mono (Nat.le_of_lt hm6.lt))
      clear c0 c1 c2 c3 c4 c5 c6 c7 hB7
      obtain ⟨W8, hW8⟩ : ∃ W, W = w7.alloc (.cells (bools8 (fun _ => true)) 88) := ⟨_, rfl⟩
      have B8 : Below w7.heap.size w7 W8.drew := by rw [hW8]; exact ((Below.refl _ _).alloc (Nat.le_refl _) _).drew
      have k8 : W8.heap[w7.heap.size]? = some (.cells (bools8 (fun _ => true)) 88 (0, 0)) := by rw [hW8]; exact heap_at_new (by simp)
      obtain ⟨c0, c1, c2, c3, c4, c5, c6, c7⟩ := rowIs8b (bools8_is k8)
      have HC8 := addSingle_ok bp s t.go vn L (fun _ => true) W8.drew (hm7.below B8) (by omega)
      have hb8 : Below bp w W8.drew := hb7.trans (B8.mono (Nat.le_of_lt hm7.lt))
      unfold bools8 at HC8 hW8
      have hs8 : w7.heap.size < W8.heap.size := heap_lt k8
      have hs9 : bp < w7.heap.size := hm7.lt
      clear k8 B8
      simp only [show bools8 (fun _ => true) = #[.bool true, .bool true, .bool true, .bool true, .bool true, .bool true, .bool true, .bool true] from rfl]
      go_wp2_with fail
      rw [← hW8]
      clear hW8
      go_region_with (go_at_call 103; refine HC8.mono ?_; intro e w9 hp9; obtain ⟨vn9, rfl, hf9⟩ := PPost.single (t := t) hb8 hp9 (by simp only [go_a] at *; omega) (by simp only [go_a] at *; omega); have HF : Hid _ := hf9; clear hf9 hp9)
      go_wp2_with fail
      go_ret2
      exact HF.out
    cases h3 : noteHere s t.a
    · skip
      have hR : atom0 s t = .no t := by unfold atom0; rw [if_neg (by rw [h1]; exact Bool.false_ne_true), if_neg (by rw [h2]; exact Bool.false_ne_true), if_neg (by rw [h3]; exact Bool.false_ne_true)]
      rw [hR]
      clear hR
      go_enter Try.func98, Try.ntmps98
      have HC1 := take_not hs h0 hm0.par
      go_wp2_with fail
      refine HC1.mono ?_
      clear HC1
      rintro e w1 ⟨rfl, hq1, ht1⟩
      have hm1 : ParM w1 bp s t vn L := hm0.touched hq1 ht1
      have hb1 : Below bp w w1 := hb0.trans (touch_bp ht1 hm0.lt)
      clear hq1 ht1
      have HC2 := take_not hs h1 hm1.par
      go_wp2_with fail
      refine HC2.mono ?_
      clear HC2
      rintro e w2 ⟨rfl, hq2, ht2⟩
      have hm2 : ParM w2 bp s t vn L := hm1.touched hq2 ht2
      have hb2 : Below bp w w2 := hb1.trans (touch_bp ht2 hm1.lt)
      clear hq2 ht2
      have HC3 := take_not hs h2 hm2.par
      go_wp2_with fail
      refine HC3.mono ?_
      clear HC3
      rintro e w3 ⟨rfl, hq3, ht3⟩
      have hm3 : ParM w3 bp s t vn L := hm2.touched hq3 ht3
      have hb3 : Below bp w w3 := hb2.trans (touch_bp ht3 hm2.lt)
      clear hq3 ht3
      have HC4 := note_not hs h3 hm3.par
      go_wp2_with fail
      refine HC4.mono ?_
      clear HC4
      rintro e w4 ⟨rfl, hq4, ht4⟩
      have hm4 : ParM w4 bp s t vn L := hm3.touched hq4 ht4
      have hb4 : Below bp w w4 := hb3.trans (touch_bp ht4 hm3.lt)
      clear hq4 ht4
      go_wp2_with fail
      go_ret2
      exact ⟨⟨_, rfl⟩, ⟨_, _, hm4⟩, hb4⟩
    · have l3 := note_lt h3
      have n3 := (note_num h3).1
      obtain ⟨c, HCC⟩ : ∃ x, Hid (byteAt s t.a - 97 = x) := ⟨_, rfl⟩
      rw [HCC.out] at n3
      have hR : atom0 s t = .ok (.one (fun x => decide (x = c))) t.go := by unfold atom0; rw [if_neg (by rw [h1]; exact Bool.false_ne_true), if_neg (by rw [h2]; exact Bool.false_ne_true), if_pos h3, HCC.out]
      rw [hR]
      clear hR
      go_enter Try.func98, Try.ntmps98
      have HC1 := take_not hs h0 hm0.par
      go_wp2_with fail
      refine HC1.mono ?_
      clear HC1
      rintro e w1 ⟨rfl, hq1, ht1⟩
      have hm1 : ParM w1 bp s t vn L := hm0.touched hq1 ht1
      have hb1 : Below bp w w1 := hb0.trans (touch_bp ht1 hm0.lt)
      clear hq1 ht1
      have HC2 := take_not hs h1 hm1.par
      go_wp2_with fail
      refine HC2.mono ?_
      clear HC2
      rintro e w2 ⟨rfl, hq2, ht2⟩
      have hm2 : ParM w2 bp s t vn L := hm1.touched hq2 ht2
      have hb2 : Below bp w w2 := hb1.trans (touch_bp ht2 hm1.lt)
      clear hq2 ht2
      have HC3 := take_not hs h2 hm2.par
      go_wp2_with fail
      refine HC3.mono ?_
      clear HC3
      rintro e w3 ⟨rfl, hq3, ht3⟩
      have hm3 : ParM w3 bp s t vn L := hm2.touched hq3 ht3
      have hb3 : Below bp w w3 := hb2.trans (touch_bp ht3 hm2.lt)
      clear hq3 ht3
      have HC4 := note_yes hs h3 hm3.par
      rw [HCC.out] at HC4
      go_wp2_with fail
      refine HC4.mono ?_
      clear HC4
      rintro e w4 ⟨rfl, hq4, ht4⟩
      have hm4 : ParM w4 bp s t.go vn L := hm3.touched hq4 ht4
      have hb4 : Below bp w w4 := hb3.trans (touch_bp ht4 hm3.lt)
      clear hq4 ht4
      have hcs : c = 0 ∨ c = 1 ∨ c = 2 ∨ c = 3 ∨ c = 4 ∨ c = 5 ∨ c = 6 ∨ c = 7 := by omega
      clear HCC n3
      rcases hcs with rfl | rfl | rfl | rfl | rfl | rfl | rfl | rfl
      · obtain ⟨W8, hW8⟩ : ∃ W, W = w4.alloc (.cells (bools8 (fun x => decide (x = 0))) 88) := ⟨_, rfl⟩
        have B8 : Below w4.heap.size w4 W8.drew := by rw [hW8]; exact ((Below.refl _ _).alloc (Nat.le_refl _) _).drew
        have k8 : W8.heap[w4.heap.size]? = some (.cells (bools8 (fun x => decide (x = 0))) 88 (0, 0)) := by rw [hW8]; exact heap_at_new (by simp)
        obtain ⟨c0, c1, c2, c3, c4, c5, c6, c7⟩ := rowIs8b (bools8_is k8)
        have HC8 := addSingle_ok bp s t.go vn L (fun x => decide (x = 0)) W8.drew (hm4.below B8) (by omega)
        have hb8 : Below bp w W8.drew := hb4.trans (B8.mono (Nat.le_of_lt hm4.lt))
        unfold bools8 at HC8 hW8
        have hs8 : w4.heap.size < W8.heap.size := heap_lt k8
        have hs9 : bp < w4.heap.size := hm4.lt
        clear k8 B8
        simp at c0 c1 c2 c3 c4 c5 c6 c7
        simp at HC8 hW8
        go_wp2_with fail
        rw [← hW8]
        clear hW8
        go_region_with (go_at_call 103; refine HC8.mono ?_; intro e w9 hp9; obtain ⟨vn9, rfl, hf9⟩ := PPost.single (t := t) hb8 hp9 (by simp only [go_a] at *; omega) (by simp only [go_a] at *; omega); have HF : Hid _ := hf9; clear hf9 hp9)
        go_wp2_with fail
        go_ret2
        exact HF.out
      · obtain ⟨W8, hW8⟩ : ∃ W, W = w4.alloc (.cells (bools8 (fun x => decide (x = 1))) 88) := ⟨_, rfl⟩
        have B8 : Below w4.heap.size w4 W8.drew := by rw [hW8]; exact ((Below.refl _ _).alloc (Nat.le_refl _) _).drew
        have k8 : W8.heap[w4.heap.size]? = some (.cells (bools8 (fun x => decide (x = 1))) 88 (0, 0)) := by rw [hW8]; exact heap_at_new (by simp)
        obtain ⟨c0, c1, c2, c3, c4, c5, c6, c7⟩ := rowIs8b (bools8_is k8)
        have HC8 := addSingle_ok bp s t.go vn L (fun x => decide (x = 1)) W8.drew (hm4.below B8) (by omega)
        have hb8 : Below bp w W8.drew := hb4.trans (B8.mono (Nat.le_of_lt hm4.lt))
        unfold bools8 at HC8 hW8
        have hs8 : w4.heap.size < W8.heap.size := heap_lt k8
        have hs9 : bp < w4.heap.size := hm4.lt
        clear k8 B8
        simp at c0 c1 c2 c3 c4 c5 c6 c7
        simp at HC8 hW8
        go_wp2_with fail
        rw [← hW8]
        clear hW8
        go_region_with (go_at_call 103; refine HC8.mono ?_; intro e w9 hp9; obtain ⟨vn9, rfl, hf9⟩ := PPost.single (t := t) hb8 hp9 (by simp only [go_a] at *; omega) (by simp only [go_a] at *; omega); have HF : Hid _ := hf9; clear hf9 hp9)
        go_wp2_with fail
        go_ret2
        exact HF.out
      · obtain ⟨W8, hW8⟩ : ∃ W, W = w4.alloc (.cells (bools8 (fun x => decide (x = 2))) 88) := ⟨_, rfl⟩
        have B8 : Below w4.heap.size w4 W8.drew := by rw [hW8]; exact ((Below.refl _ _).alloc (Nat.le_refl _) _).drew
        have k8 : W8.heap[w4.heap.size]? = some (.cells (bools8 (fun x => decide (x = 2))) 88 (0, 0)) := by rw [hW8]; exact heap_at_new (by simp)
        obtain ⟨c0, c1, c2, c3, c4, c5, c6, c7⟩ := rowIs8b (bools8_is k8)
        have HC8 := addSingle_ok bp s t.go vn L (fun x => decide (x = 2)) W8.drew (hm4.below B8) (by omega)
        have hb8 : Below bp w W8.drew := hb4.trans (B8.mono (Nat.le_of_lt hm4.lt))
        unfold bools8 at HC8 hW8
        have hs8 : w4.heap.size < W8.heap.size := heap_lt k8
        have hs9 : bp < w4.heap.size := hm4.lt
        clear k8 B8
        simp at c0 c1 c2 c3 c4 c5 c6 c7
        simp at HC8 hW8
        go_wp2_with fail
        rw [← hW8]
        clear hW8
        go_region_with (go_at_call 103; refine HC8.mono ?_; intro e w9 hp9; obtain ⟨vn9, rfl, hf9⟩ := PPost.single (t := t) hb8 hp9 (by simp only [go_a] at *; omega) (by simp only [go_a] at *; omega); have HF : Hid _ := hf9; clear hf9 hp9)
        go_wp2_with fail
        go_ret2
        exact HF.out
      · obtain ⟨W8, hW8⟩ : ∃ W, W = w4.alloc (.cells (bools8 (fun x => decide (x = 3))) 88) := ⟨_, rfl⟩
        have B8 : Below w4.heap.size w4 W8.drew := by rw [hW8]; exact ((Below.refl _ _).alloc (Nat.le_refl _) _).drew
        have k8 : W8.heap[w4.heap.size]? = some (.cells (bools8 (fun x => decide (x = 3))) 88 (0, 0)) := by rw [hW8]; exact heap_at_new (by simp)
        obtain ⟨c0, c1, c2, c3, c4, c5, c6, c7⟩ := rowIs8b (bools8_is k8)
        have HC8 := addSingle_ok bp s t.go vn L (fun x => decide (x = 3)) W8.drew (hm4.below B8) (by omega)
        have hb8 : Below bp w W8.drew := hb4.trans (B8.mono (Nat.le_of_lt hm4.lt))
        unfold bools8 at HC8 hW8
        have hs8 : w4.heap.size < W8.heap.size := heap_lt k8
        have hs9 : bp < w4.heap.size := hm4.lt
        clear k8 B8
        simp at c0 c1 c2 c3 c4 c5 c6 c7
        simp at HC8 hW8
        go_wp2_with fail
        rw [← hW8]
        clear hW8
        go_region_with (go_at_call 103; refine HC8.mono ?_; intro e w9 hp9; obtain ⟨vn9, rfl, hf9⟩ := PPost.single (t := t) hb8 hp9 (by simp only [go_a] at *; omega) (by simp only [go_a] at *; omega); have HF : Hid _ := hf9; clear hf9 hp9)
        go_wp2_with fail
        go_ret2
        exact HF.out
      · obtain ⟨W8, hW8⟩ : ∃ W, W = w4.alloc (.cells (bools8 (fun x => decide (x = 4))) 88) := ⟨_, rfl⟩
        have B8 : Below w4.heap.size w4 W8.drew := by rw [hW8]; exact ((Below.refl _ _).alloc (Nat.le_refl _) _).drew
        have k8 : W8.heap[w4.heap.size]? = some (.cells (bools8 (fun x => decide (x = 4))) 88 (0, 0)) := by rw [hW8]; exact heap_at_new (by simp)
        obtain ⟨c0, c1, c2, c3, c4, c5, c6, c7⟩ := rowIs8b (bools8_is k8)
        have HC8 := addSingle_ok bp s t.go vn L (fun x => decide (x = 4)) W8.drew (hm4.below B8) (by omega)
        have hb8 : Below bp w W8.drew := hb4.trans (B8.mono (Nat.le_of_lt hm4.lt))
        unfold bools8 at HC8 hW8
        have hs8 : w4.heap.size < W8.heap.size := heap_lt k8
        have hs9 : bp < w4.heap.size := hm4.lt
        clear k8 B8
        simp at c0 c1 c2 c3 c4 c5 c6 c7
        simp at HC8 hW8
        go_wp2_with fail
        rw [← hW8]
        clear hW8
        go_region_with (go_at_call 103; refine HC8.mono ?_; intro e w9 hp9; obtain ⟨vn9, rfl, hf9⟩ := PPost.single (t := t) hb8 hp9 (by simp only [go_a] at *; omega) (by simp only [go_a] at *; omega); have HF : Hid _ := hf9; clear hf9 hp9)
        go_wp2_with fail
        go_ret2
        exact HF.out
      · obtain ⟨W8, hW8⟩ : ∃ W, W = w4.alloc (.cells (bools8 (fun x => decide (x = 5))) 88) := ⟨_, rfl⟩
        have B8 : Below w4.heap.size w4 W8.drew := by rw [hW8]; exact ((Below.refl _ _).alloc (Nat.le_refl _) _).drew
        have k8 : W8.heap[w4.heap.size]? = some (.cells (bools8 (fun x => decide (x = 5))) 88 (0, 0)) := by rw [hW8]; exact heap_at_new (by simp)
        obtain ⟨c0, c1, c2, c3, c4, c5, c6, c7⟩ := rowIs8b (bools8_is k8)
        have HC8 := addSingle_ok bp s t.go vn L (fun x => decide (x = 5)) W8.drew (hm4.below B8) (by omega)
        have hb8 : Below bp w W8.drew := hb4.trans (B8.mono (Nat.le_of_lt hm4.lt))
        unfold bools8 at HC8 hW8
        have hs8 : w4.heap.size < W8.heap.size := heap_lt k8
        have hs9 : bp < w4.heap.size := hm4.lt
        clear k8 B8
        simp at c0 c1 c2 c3 c4 c5 c6 c7
        simp at HC8 hW8
        go_wp2_with fail
        rw [← hW8]
        clear hW8
        go_region_with (go_at_call 103; refine HC8.mono ?_; intro e w9 hp9; obtain ⟨vn9, rfl, hf9⟩ := PPost.single (t := t) hb8 hp9 (by simp only [go_a] at *; omega) (by simp only [go_a] at *; omega); have HF : Hid _ := hf9; clear hf9 hp9)
        go_wp2_with fail
        go_ret2
        exact HF.out
      · obtain ⟨W8, hW8⟩ : ∃ W, W = w4.alloc (.cells (bools8 (fun x => decide (x = 6))) 88) := ⟨_, rfl⟩
        have B8 : Below w4.heap.size w4 W8.drew := by rw [hW8]; exact ((Below.refl _ _).alloc (Nat.le_refl _) _).drew
        have k8 : W8.heap[w4.heap.size]? = some (.cells (bools8 (fun x => decide (x = 6))) 88 (0, 0)) := by rw [hW8]; exact heap_at_new (by simp)
        obtain ⟨c0, c1, c2, c3, c4, c5, c6, c7⟩ := rowIs8b (bools8_is k8)
        have HC8 := addSingle_ok bp s t.go vn L (fun x => decide (x = 6)) W8.drew (hm4.below B8) (by omega)
        have hb8 : Below bp w W8.drew := hb4.trans (B8.mono (Nat.le_of_lt hm4.lt))
        unfold bools8 at HC8 hW8
        have hs8 : w4.heap.size < W8.heap.size := heap_lt k8
        have hs9 : bp < w4.heap.size := hm4.lt
        clear k8 B8
        simp at c0 c1 c2 c3 c4 c5 c6 c7
        simp at HC8 hW8
        go_wp2_with fail
        rw [← hW8]
        clear hW8
        go_region_with (go_at_call 103; refine HC8.mono ?_; intro e w9 hp9; obtain ⟨vn9, rfl, hf9⟩ := PPost.single (t := t) hb8 hp9 (by simp only [go_a] at *; omega) (by simp only [go_a] at *; omega); have HF : Hid _ := hf9; clear hf9 hp9)
        go_wp2_with fail
        go_ret2
        exact HF.out
      · obtain ⟨W8, hW8⟩ : ∃ W, W = w4.alloc (.cells (bools8 (fun x => decide (x = 7))) 88) := ⟨_, rfl⟩
        have B8 : Below w4.heap.size w4 W8.drew := by rw [hW8]; exact ((Below.refl _ _).alloc (Nat.le_refl _) _).drew
        have k8 : W8.heap[w4.heap.size]? = some (.cells (bools8 (fun x => decide (x = 7))) 88 (0, 0)) := by rw [hW8]; exact heap_at_new (by simp)
        obtain ⟨c0, c1, c2, c3, c4, c5, c6, c7⟩ := rowIs8b (bools8_is k8)
        have HC8 := addSingle_ok bp s t.go vn L (fun x => decide (x = 7)) W8.drew (hm4.below B8) (by omega)
        have hb8 : Below bp w W8.drew := hb4.trans (B8.mono (Nat.le_of_lt hm4.lt))
        unfold bools8 at HC8 hW8
        have hs8 : w4.heap.size < W8.heap.size := heap_lt k8
        have hs9 : bp < w4.heap.size := hm4.lt
        clear k8 B8
        simp at c0 c1 c2 c3 c4 c5 c6 c7
        simp at HC8 hW8
        go_wp2_with fail
        rw [← hW8]
        clear hW8
        go_region_with (go_at_call 103; refine HC8.mono ?_; intro e w9 hp9; obtain ⟨vn9, rfl, hf9⟩ := PPost.single (t := t) hb8 hp9 (by simp only [go_a] at *; omega) (by simp only [go_a] at *; omega); have HF : Hid _ := hf9; clear hf9 hp9)
        go_wp2_with fail
        go_ret2
        exact HF.out
  · have l0 := hit_lt h0
    simp only [if_true]
    cases hr : patF s (atomF s k) t.go with
    | no t2 =>
      go_enter Try.func98, Try.ntmps98
      have HC1 := take_yes hs h0 hm0.par
      go_wp2_with fail
      refine HC1.mono ?_
      clear HC1
      rintro e w1 ⟨rfl, hq1, ht1⟩
      have hm1 : ParM w1 bp s t.go vn L := hm0.touched hq1 ht1
      have hb1 : Below bp w w1 := hb0.trans (touch_bp ht1 hm0.lt)
      clear hq1 ht1
      have HC2 := HP bp s t.go vn L w1 (d + 1) (by have := HD.out; omega) hs (by simp only [go_a]; omega) (by simp only [go_a]; omega) hm1
      rw [hr] at HC2
      clear hr
      go_wp2_with fail
      refine HC2.mono ?_
      clear HC2
      rintro e w2 ⟨⟨v, rfl⟩, ⟨vn2, L2, hm2⟩, hb2⟩
      go_wp2_with fail
      go_ret2
      exact ⟨⟨_, rfl⟩, ⟨_, _, hm2⟩, hb1.trans hb2⟩
    | ok p t2 =>
      have hgo := patF_goes (atomF_goes k) (by simp only [go_a]; omega) hr
      simp only [go_a] at hgo
      cases h9 : hit s t2.a 41
      · simp only [h9, Bool.false_eq_true, if_false]
        go_enter Try.func98, Try.ntmps98
        have HC1 := take_yes hs h0 hm0.par
        go_wp2_with fail
        refine HC1.mono ?_
        clear HC1
        rintro e w1 ⟨rfl, hq1, ht1⟩
        have hm1 : ParM w1 bp s t.go vn L := hm0.touched hq1 ht1
        have hb1 : Below bp w w1 := hb0.trans (touch_bp ht1 hm0.lt)
        clear hq1 ht1
        have HC2 := HP bp s t.go vn L w1 (d + 1) (by have := HD.out; omega) hs (by simp only [go_a]; omega) (by simp only [go_a]; omega) hm1
        rw [hr] at HC2
        clear hr
        go_wp2_with fail
        refine HC2.mono ?_
        clear HC2
        rintro e w2 ⟨j, vn2, M, rfl, hm2, hN, hlen, hb2⟩
        have hbb : Below bp w w2 := hb1.trans hb2
        clear hb2
        have HC9 := take_not hs h9 hm2.par
        go_wp2_with fail
        refine HC9.mono ?_
        clear HC9
        rintro e w9 ⟨rfl, hq9, ht9⟩
        have hm9 : ParM w9 bp s t2 vn2 (L ++ M) := hm2.touched hq9 ht9
        have hb9 : Below bp w w9 := hbb.trans (touch_bp ht9 hm2.lt)
        clear hq9 ht9
        go_wp2_with fail
        go_ret2
        exact ⟨⟨_, rfl⟩, ⟨_, _, hm9⟩, hb9⟩
      · simp only [h9, if_true]
        have l9 := hit_lt h9
        go_enter Try.func98, Try.ntmps98
        have HC1 := take_yes hs h0 hm0.par
        go_wp2_with fail
        refine HC1.mono ?_
        clear HC1
        rintro e w1 ⟨rfl, hq1, ht1⟩
        have hm1 : ParM w1 bp s t.go vn L := hm0.touched hq1 ht1
        have hb1 : Below bp w w1 := hb0.trans (touch_bp ht1 hm0.lt)
        clear hq1 ht1
        have HC2 := HP bp s t.go vn L w1 (d + 1) (by have := HD.out; omega) hs (by simp only [go_a]; omega) (by simp only [go_a]; omega) hm1
        rw [hr] at HC2
        clear hr
        go_wp2_with fail
        refine HC2.mono ?_
        clear HC2
        rintro e w2 ⟨j, vn2, M, rfl, hm2, hN, hlen, hb2⟩
        have hbb : Below bp w w2 := hb1.trans hb2
        clear hb2
        have HC9 := take_yes hs h9 hm2.par
        go_wp2_with fail
        refine HC9.mono ?_
        clear HC9
        rintro e w9 ⟨rfl, hq9, ht9⟩
        have hm9 : ParM w9 bp s t2.go vn2 (L ++ M) := hm2.touched hq9 ht9
        have hb9 : Below bp w w9 := hbb.trans (touch_bp ht9 hm2.lt)
        clear hq9 ht9
        go_wp2_with fail
        go_ret2
        exact ⟨j, vn2, M, rfl, hm9, hN, by simp only [go_a] at *; omega, hb9⟩
end Go.Proofs.Ytpngikmcjkjdaab
