import Derived.Test.YtpngikmcjkjdaaaGreatDoorRefNearN
import Derived.Test.YtpngikmcjkjdaaaGreatDoorTableW
import Derived.Test.YtpngikmcjkjdaaaGreatDoorScript
namespace Go.Proofs.YtpngikmcjkjdaaaGreatDoor
open Go.RowKit
set_option linter.unusedVariables false

set_option maxRecDepth 20000 in
set_option maxHeartbeats 8000000 in
theorem made_near (W0 w : World) (bw : Nat) (vts : Value) (hs : List Hd) (hw : WdAt W0 w bw vts hs) (hn : hs.length ≤ 4398046511104) (a b c d : Int) (s : ByteArray) (lo : Option Addr) (ll lc : Nat) (hss : s.size ≤ maxLen) :
    Calls Tryz.prog 18 #[.pointer (some ⟨bw, 0, none⟩), .agg #[.int .i64 9, .int .i64 a, .int .i64 b, .int .i64 c, .int .i64 d, .string s, .slice lo ll lc]] w
      (fun e w' => StepPost W0 bw hs.length e w' ∧ Kept bw vts w w') := by
  obtain ⟨W2, hW2⟩ : ∃ W, W = w.alloc (.cells #[.int .i64 9, .int .i64 a, .int .i64 b, .int .i64 c, .int .i64 d, .string s, .slice lo ll lc] 33) := ⟨_, rfl⟩
  have BW2 : Below w.heap.size w W2 := by rw [hW2]; exact (Below.refl _ _).alloc (Nat.le_refl _) _
  have hWs : W2.heap.size = w.heap.size + 1 := by rw [hW2]; simp
  have b0 : W2.heap[w.heap.size]? = some (.cells #[.int .i64 9, .int .i64 a, .int .i64 b, .int .i64 c, .int .i64 d, .string s, .slice lo ll lc] 33 (0, 0)) := by rw [hW2]; exact heap_at_new rfl
  obtain ⟨x0, x1, x2, _, _, x5, _⟩ := cell_seven b0
  have hw2 := hw.below BW2
  go_enter Tryz.func18, Tryz.ntmps18
  go_upto_region 1 with fail
  rw [← hW2]
  clear hW2
  by_cases hje : nearErr s a b = 0
  · have hj := hje
    unfold nearErr at hj
    cases htt : (decide (s.size ≤ 12) && textTo s s.size)
    · rw [htt] at hj; simp at hj
    rw [htt] at hj
    simp only [Bool.true_eq_false, if_false] at hj
    have ha : 0 ≤ a ∧ a ≤ 2 := by
      refine Classical.byContradiction (fun hn' => ?_)
      rw [if_pos (by omega)] at hj; omega
    rw [if_neg (by omega)] at hj
    have hb : 1 ≤ b ∧ b ≤ 40 := by
      refine Classical.byContradiction (fun hn' => ?_)
      rw [if_pos (by omega)] at hj; omega
    have hs12 : s.size ≤ 12 := by simp at htt; exact htt.1
    have ht : IsText s := (textTo_isText s).1 (by simp at htt; exact htt.2)
    obtain ⟨most, rfl⟩ : ∃ n : Nat, a = (n : Int) := ⟨a.toNat, by omega⟩
    obtain ⟨bu, rfl⟩ : ∃ n : Nat, b = (n : Int) := ⟨b.toNat, by omega⟩
    clear hj hje htt
    have HC := near_ok s most bu W2 hs12 (by omega) ht (by omega) (by omega)
    go_wp2_with fail
    refine HC.mono ?_
    clear HC x0 x1 x2 x5
    rintro e w6 ⟨n, hB6, ⟨R, Vr, hR, hRd, rfl, hTr, hFr, hFs⟩ | ⟨rfl, hbud, hRn⟩⟩
    · have hs6 := hB6.size
      go_upto_region 3 with fail
      obtain ⟨W6, hW6⟩ : ∃ W6, W6 = w6.alloc (.cells #[.slice (some ⟨Vr.ba, Vr.oa, none⟩) R.n Vr.ca, .slice (some ⟨Vr.bn, Vr.on, none⟩) R.n Vr.cn] 41) := ⟨_, rfl⟩
      have bW6 : Below w6.heap.size w6 W6 := by rw [hW6]; exact (Below.refl _ _).alloc (Nat.le_refl _) _
      have sW6 : w6.heap.size < W6.heap.size := by rw [hW6]; simp
      have qW6 : W6.heap[w6.heap.size]? = some (.cells #[.slice (some ⟨Vr.ba, Vr.oa, none⟩) R.n Vr.ca, .slice (some ⟨Vr.bn, Vr.on, none⟩) R.n Vr.cn] 41 (0, 0)) := by rw [hW6]; exact heap_at_new rfl
      rw [← hW6]
      clear hW6
      have B6 : Below W2.heap.size W2 W6 := hB6.trans (bW6.mono (by omega))
      obtain ⟨z0, z1, z2, _, _, z5, _⟩ := cell_seven ((B6.block _ (by omega)).trans b0)
      have HC2 := refNear_ok s most bu W6 hs12 (by omega) ht (by omega) (by omega)
      have HR : Hid _ := hR
      have HTr : Hid _ := hTr
      have HFr : Hid (Vr.From W2.heap.size R.n) := hFr
      have HFs : Hid _ := hFs
      clear hR hTr hFr hFs
      go_wp2_with fail
      refine HC2.mono ?_
      clear HC2
      rintro e w7 ⟨hB7, ⟨U, Q, hQ, hQd, rfl, hU⟩ | ⟨rfl, Q, hQ, hQd⟩⟩
      · have hs7 := hB7.size
        go_upto_region 4 with fail
        obtain ⟨W7, hW7⟩ : ∃ W7, W7 = w7.alloc (.cells #[.slice (some ⟨U.ba, U.oa, none⟩) Q.n U.ca, .slice (some ⟨U.bn, U.on, none⟩) Q.n U.cn] 41) := ⟨_, rfl⟩
        have bW7 : Below w7.heap.size w7 W7 := by rw [hW7]; exact (Below.refl _ _).alloc (Nat.le_refl _) _
        have sW7 : w7.heap.size < W7.heap.size := by rw [hW7]; simp
        have qW7 : W7.heap[w7.heap.size]? = some (.cells #[.slice (some ⟨U.ba, U.oa, none⟩) Q.n U.ca, .slice (some ⟨U.bn, U.on, none⟩) Q.n U.cn] 41 (0, 0)) := by rw [hW7]; exact heap_at_new rfl
        rw [← hW7]
        clear hW7
        have BC : Below W6.heap.size W6 W7 := hB7.trans (bW7.mono (by omega))
        have BB : Below W2.heap.size W2 W7 := B6.trans (BC.mono (by omega))
        obtain ⟨f0, f1, _, _⟩ := cell_two ((BC.block _ (by omega)).trans qW6)
        obtain ⟨g0, g1, _, _⟩ := cell_two qW7
        have BD : Below w6.heap.size w6 W7 := bW6.trans (BC.mono (by omega))
        have HC3 := table_ok W0 W2 W7 bw vts hs hw2 BB hn Vr U R Q (Ear.lang ⟨noteAt s, s.size, most⟩) HR.out hQ (HTr.out.below BD) (HFs.out.below BD) HFr.out (hU.below bW7) (by omega)
        clear z0 z1 z2 z5 BC BD hB7 bW7 bW6 qW6 qW7 hQ HR HTr HFr HFs hU
        go_wp2_with fail
        refine HC3.mono ?_
        clear HC3
        rintro e w8 ⟨⟨rfl, vts', hs', hW', hl'⟩, hK⟩
        have HF : Hid _ := hW'
        have HK : Hid (Kept bw vts w w8) := Kept.from BW2 hK
        clear hK
        clear hW' f0 f1 g0 g1
        go_wp2_with fail
        go_ret
        exact ⟨⟨rfl, vts', hs', HF.out, hl'⟩, HK.out⟩
      · exfalso
        have := (least_unique HR.out hQ).n
        omega
    · have hs6 := hB6.size
      go_upto_region 3 with fail
      obtain ⟨W6, hW6⟩ : ∃ W6, W6 = w6.alloc (.cells #[.slice none 0 0, .slice none 0 0] 41) := ⟨_, rfl⟩
      have bW6 : Below w6.heap.size w6 W6 := by rw [hW6]; exact (Below.refl _ _).alloc (Nat.le_refl _) _
      have sW6 : w6.heap.size < W6.heap.size := by rw [hW6]; simp
      have qW6 : W6.heap[w6.heap.size]? = some (.cells #[.slice none 0 0, .slice none 0 0] 41 (0, 0)) := by rw [hW6]; exact heap_at_new rfl
      rw [← hW6]
      clear hW6
      have B6 : Below W2.heap.size W2 W6 := hB6.trans (bW6.mono (by omega))
      obtain ⟨z0, z1, z2, _, _, z5, _⟩ := cell_seven ((B6.block _ (by omega)).trans b0)
      have HC2 := refNear_ok s most bu W6 hs12 (by omega) ht (by omega) (by omega)
      have HRN : Hid _ := hRn
      clear hRn
      go_wp2_with fail
      refine HC2.mono ?_
      clear HC2
      rintro e w7 ⟨hB7, ⟨U, Q, hQ, hQd, rfl, hU⟩ | ⟨rfl, Q, hQ, hQd⟩⟩
      · exfalso
        have := HRN.out Q hQ
        omega
      · have hs7 := hB7.size
        go_upto_region 4 with fail
        obtain ⟨W7, hW7⟩ : ∃ W7, W7 = w7.alloc (.cells #[.slice none 0 0, .slice none 0 0] 41) := ⟨_, rfl⟩
        have bW7 : Below w7.heap.size w7 W7 := by rw [hW7]; exact (Below.refl _ _).alloc (Nat.le_refl _) _
        have sW7 : w7.heap.size < W7.heap.size := by rw [hW7]; simp
        have qW7 : W7.heap[w7.heap.size]? = some (.cells #[.slice none 0 0, .slice none 0 0] 41 (0, 0)) := by rw [hW7]; exact heap_at_new rfl
        rw [← hW7]
        clear hW7
        have BC : Below W6.heap.size W6 W7 := hB7.trans (bW7.mono (by omega))
        have BB : Below W2.heap.size W2 W7 := B6.trans (BC.mono (by omega))
        obtain ⟨f0, f1, _, _⟩ := cell_two ((BC.block _ (by omega)).trans qW6)
        obtain ⟨g0, g1, _, _⟩ := cell_two qW7
        have HC3 := table_err bw 5 W7 (by decide)
        clear z0 z1 z2 z5 BC hB7 bW7 qW6 qW7
        go_wp2_with fail
        refine HC3.mono ?_
        clear HC3
        rintro e w8 ⟨rfl, hB8⟩
        have HF : Hid (WdAt W0 w8 bw vts hs) := hw2.below (BB.trans (hB8.mono (by omega)))
        have HK : Hid (Kept bw vts w w8) := Kept.from BW2 (Kept.of_below (BB.trans (hB8.mono (by omega))))
        clear hB8 BB f0 f1 g0 g1
        go_wp2_with fail
        go_ret
        exact ⟨⟨rfl, _, _, HF.out, by omega⟩, HK.out⟩
  · have HC := near_no s a b W2 hss hje
    obtain ⟨er, HE⟩ : ∃ x, Hid (nearErr s a b = x) := ⟨_, rfl⟩
    have her : er ≠ 0 := by rw [← HE.out]; exact hje
    rw [HE.out] at HC
    go_wp2_with fail
    refine HC.mono ?_
    clear HC x0 x1 x2 x5
    rintro e w6 ⟨rfl, hB6⟩
    have hs6 := hB6.size
    go_upto_region 3 with fail
    obtain ⟨W6, hW6⟩ : ∃ W6, W6 = w6.alloc (.cells #[.slice none 0 0, .slice none 0 0] 41) := ⟨_, rfl⟩
    have bW6 : Below w6.heap.size w6 W6 := by rw [hW6]; exact (Below.refl _ _).alloc (Nat.le_refl _) _
    have sW6 : w6.heap.size < W6.heap.size := by rw [hW6]; simp
    have qW6 : W6.heap[w6.heap.size]? = some (.cells #[.slice none 0 0, .slice none 0 0] 41 (0, 0)) := by rw [hW6]; exact heap_at_new rfl
    rw [← hW6]
    clear hW6
    have B6 : Below W2.heap.size W2 W6 := hB6.trans (bW6.mono (by omega))
    obtain ⟨z0, z1, z2, _, _, z5, _⟩ := cell_seven ((B6.block _ (by omega)).trans b0)
    have HC2 := refNear_no s a b W6 hss hje
    rw [HE.out] at HC2
    clear hje
    go_wp2_with fail
    refine HC2.mono ?_
    clear HC2
    rintro e w7 ⟨rfl, hB7⟩
    have hs7 := hB7.size
    go_upto_region 4 with fail
    obtain ⟨W7, hW7⟩ : ∃ W7, W7 = w7.alloc (.cells #[.slice none 0 0, .slice none 0 0] 41) := ⟨_, rfl⟩
    have bW7 : Below w7.heap.size w7 W7 := by rw [hW7]; exact (Below.refl _ _).alloc (Nat.le_refl _) _
    have sW7 : w7.heap.size < W7.heap.size := by rw [hW7]; simp
    have qW7 : W7.heap[w7.heap.size]? = some (.cells #[.slice none 0 0, .slice none 0 0] 41 (0, 0)) := by rw [hW7]; exact heap_at_new rfl
    rw [← hW7]
    clear hW7
    have BC : Below W6.heap.size W6 W7 := hB7.trans (bW7.mono (by omega))
    have BB : Below W2.heap.size W2 W7 := B6.trans (BC.mono (by omega))
    obtain ⟨f0, f1, _, _⟩ := cell_two ((BC.block _ (by omega)).trans qW6)
    obtain ⟨g0, g1, _, _⟩ := cell_two qW7
    have HC3 := table_err bw er W7 her
    clear z0 z1 z2 z5 BC hB7 bW7 qW6 qW7
    go_wp2_with fail
    refine HC3.mono ?_
    clear HC3
    rintro e w8 ⟨rfl, hB8⟩
    have HF : Hid (WdAt W0 w8 bw vts hs) := hw2.below (BB.trans (hB8.mono (by omega)))
    have HK : Hid (Kept bw vts w w8) := Kept.from BW2 (Kept.of_below (BB.trans (hB8.mono (by omega))))
    clear hB8 BB f0 f1 g0 g1
    go_wp2_with fail
    go_ret
    exact ⟨⟨rfl, _, _, HF.out, by omega⟩, HK.out⟩
end Go.Proofs.YtpngikmcjkjdaaaGreatDoor

namespace Go.Proofs.YtpngikmcjkjdaaaGreatDoor
open Go.RowKit
set_option linter.unusedVariables false

set_option maxRecDepth 20000 in
set_option maxHeartbeats 4000000 in
theorem step_near (W0 w : World) (bw : Nat) (vts : Value) (hs : List Hd) (h : WdAt W0 w bw vts hs) (a b c d : Int) (s : ByteArray) (lo : Option Addr) (ll lc : Nat) (hn : hs.length ≤ 4398046511104) (hss : s.size ≤ maxLen) :
    Calls Tryz.prog 12 #[.pointer (some ⟨bw, 0, none⟩), .agg #[.int .i64 9, .int .i64 a, .int .i64 b, .int .i64 c, .int .i64 d, .string s, .slice lo ll lc]] w (StepPost W0 bw hs.length) := by
  obtain ⟨W, hW⟩ : ∃ W, W = w.alloc (.cells #[.int .i64 9, .int .i64 a, .int .i64 b, .int .i64 c, .int .i64 d, .string s, .slice lo ll lc] 33) := ⟨_, rfl⟩
  have BW : Below w.heap.size w W := by rw [hW]; exact (Below.refl _ _).alloc (Nat.le_refl _) _
  have b0 : W.heap[w.heap.size]? = some (.cells #[.int .i64 9, .int .i64 a, .int .i64 b, .int .i64 c, .int .i64 d, .string s, .slice lo ll lc] 33 (0, 0)) := by rw [hW]; exact heap_at_new rfl
  have h1 := h.below BW
  obtain ⟨x0, x1, x2, x3, x4, x5, x6⟩ := cell_seven b0
  have HQ := made_near W0 W bw vts hs h1 hn a b c d s lo ll lc hss
  clear h h1
  go_enter Tryz.func12, Tryz.ntmps12
  go_upto_region 1 with fail
  rw [← hW]
  clear hW
  go_wp2_with fail
  refine HQ.mono ?_
  clear HQ
  rintro e w1 ⟨⟨rfl, hT⟩, _⟩
  have HT : Hid _ := hT
  clear hT
  go_wp2_with fail
  go_ret
  exact ⟨rfl, HT.out⟩

set_option maxRecDepth 20000 in
set_option maxHeartbeats 2000000 in
theorem nears_walk (ao : Option Addr) (len cap : Nat) (r : Nat → OpRec) (w : World) (hlen : len ≤ 4398046511104) (h : ∀ i, i < len → ∃ b o, ao = some ⟨b, o, none⟩ ∧ (r i).At w b (o + i * 7)) :
    Calls Tryz.prog 7 #[.slice ao len cap] w fun e w' => e = .returned (.bool true) ∧ Below w.heap.size w w' := by
  have hO := ops_of hlen h
  obtain ⟨W, hW⟩ : ∃ W, W = w.alloc (.cells #[.int .i64 9] 3) := ⟨_, rfl⟩
  have BW : Below w.heap.size w W := by rw [hW]; exact (Below.refl _ _).alloc (Nat.le_refl _) _
  have hWs : w.heap.size < W.heap.size := by rw [hW]; simp
  have b0 : W.heap[w.heap.size]? = some (.cells #[.int .i64 9] 3 (0, 0)) := by rw [hW]; exact heap_at_new rfl
  have k0 : W.cell? ⟨w.heap.size, 0, none⟩ = some (.int .i64 9) := by simp [World.cell?, b0]
  have hO1 := hO.below BW
  have HC := plays_ok ao len cap _ _ _ _ _ _ _ _ _ _ W hO1 w.heap.size 1 1 (fun _ => 9) (fun j hj => by
      obtain rfl : j = 0 := by omega
      exact k0) (by omega) (fun i hi hin w' vts hs hB hP hl => by
      have hR := hO1.below hB
      rw [inB_iff] at hin
      have hk : (r i).kd = 1 ∨ (r i).kd = 2 ∨ (r i).kd = 9 := by
        rcases hin with h | h | ⟨j, hj, h⟩
        · exact .inl h
        · exact .inr (.inl h)
        · exact .inr (.inr h)
      rcases hk with hk | hk | hk
      · rw [hk]; exact step_table W w' W.heap.size vts hs hP _ _ _ _ _ _ _ _ _ (hR.lst i hi) (by omega)
      · rw [hk]; exact step_write W w' W.heap.size vts hs hP _ _ _ _ _ _ _ _ (by omega) (hR.ra i hi) (hR.rb i hi) (hR.rc i hi)
      · rw [hk]; exact step_near W w' W.heap.size vts hs hP _ _ _ _ _ _ _ _ (by omega) (hR.str i hi))
  clear hO hO1 h b0 k0
  go_enter Tryz.func7, Tryz.ntmps7
  go_wp2_with fail
  rw [← hW]
  clear hW
  refine HC.mono ?_
  rintro e w1 ⟨rfl, hB1⟩
  clear HC
  go_wp2_with fail
  go_ret
  exact ⟨rfl, BW.trans (hB1.mono (by omega))⟩
end Go.Proofs.YtpngikmcjkjdaaaGreatDoor
