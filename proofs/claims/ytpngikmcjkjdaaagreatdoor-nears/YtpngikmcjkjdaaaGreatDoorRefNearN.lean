import Derived.Test.YtpngikmcjkjdaaaGreatDoorRefLeast
import Derived.Test.YtpngikmcjkjdaaaGreatDoorRefTab
import Derived.Test.YtpngikmcjkjdaaaGreatDoorRefBoth
import Derived.Test.YtpngikmcjkjdaaaGreatDoorEarN
namespace Go.Proofs.YtpngikmcjkjdaaaGreatDoor
open Go.RowKit
set_option linter.unusedVariables false

theorem capped_ok (a : Int) (most : Nat) (w : World) (hm : most ≤ 2) (ha : -9223372036854775808 ≤ a ∧ a ≤ 9223372036854775807) :
    Calls Tryz.prog 101 #[.int .i64 a, .int .i64 most] w fun e w' => e = .returned (.int .i64 (min a ((most : Int) + 1))) ∧ w = w' := by
  by_cases h : (most : Int) + 1 < a
  · rw [show min a ((most : Int) + 1) = (most : Int) + 1 by omega]
    go_enter Tryz.func101, Tryz.ntmps101
    go_wp2
    go_ret
    exact ⟨rfl, rfl⟩
  · rw [show min a ((most : Int) + 1) = a by omega]
    go_enter Tryz.func101, Tryz.ntmps101
    go_wp2
    go_ret
    exact ⟨rfl, rfl⟩

set_option maxRecDepth 20000 in
set_option maxHeartbeats 1600000 in
theorem start_ok (s : ByteArray) (most : Nat) (w : World) (hs : s.size ≤ 12) (hm : most ≤ 2) :
    Calls Tryz.prog 63 #[.string s, .int .i64 most] w fun e w' => Below w.heap.size w w' ∧ ∃ g cap, e = .returned (.slice (some ⟨g, 0, none⟩) (s.size + 1) cap) ∧ w'.ownsRow w.heap.size 3 1 (.slice (some ⟨g, 0, none⟩) (s.size + 1) cap) (s.size + 1) (icells (nBegin most) (s.size + 1)) := by
  obtain ⟨i3, hi3, hz3, hz31, hz32⟩ := info_parts Tryz.info3
  go_enter Tryz.func63, Tryz.ntmps63
  go_wp2_with fail
  go_loopw [5, 6, 7] (fun v j' _ wr => ∃ j : Nat, j ≤ s.size + 1 ∧ j' = .int .i64 j ∧ Below w.heap.size w wr ∧ wr.ownsRow w.heap.size 3 1 v j (icells (nBegin most) j))
    (fun _ j' _ _ => s.size + 1 - (intOf j').toNat)
  case atStart => exact ⟨0, by omega, rfl, Below.refl _ _, World.ownsRow_nil _ _ _ _⟩
  case round =>
    obtain ⟨j, hj, rfl, hb, hown⟩ := hrel
    have hbs := hb.size
    by_cases hlt : j ≤ s.size
    · have hna := hown.alloc (.cells #[.int .i64 (min (j : Int) ((most : Int) + 1))] 3)
      have HB : Hid _ := hb
      have HOW : Hid (∀ x, (u5 : Value).ownBlock = some x → w.heap.size ≤ x) := fun x e => (hown.lt x e).1
      clear hb hown
      go_wp2_with (first | (go_at_call 101; refine (capped_ok _ _ _ hm (by omega)).mono ?_; rintro e w' ⟨rfl, rfl⟩) | (at_builtin; refine wpList_append_fresh _ rfl _ _ 96 rfl w.heap.size 3 i3 (.int .i64 0) 1 8 Tryz.underlying96 hi3 hz3 hz31 hz32 rfl (by decide) _ j (icells (nBegin most) j) rfl hna ⟨wr.heap.size, 0, none⟩ 1 1 [.int .i64 (min (j : Int) ((most : Int) + 1))] rfl rfl (cell_one_new _ _ _) (by intro u hu; simp at hu; subst hu; rfl) (by decide) (by unfold maxLen; omega) (by omega) (by simp; omega) ?_; intro g cap w2 hown hgr hfr; have HO : Hid _ := hown; have HG : Hid _ := hgr; clear hown hgr hfr))
      go_roundw
      case rel =>
        have ho := HO.out
        rw [show (min (j : Int) ((most : Int) + 1)) = ((nBegin most j : Nat) : Int) by unfold nBegin; omega, ← icells_succ] at ho
        exact ⟨j + 1, by omega, by go_num, (HB.out.alloc (by omega) _).grown HG.out (by simp; omega) (fun x e => HOW.out x e), ho⟩
      case measure => simp [intOf]; omega
    · have hle : ¬ (j : Int) ≤ (s.size : Int) := by omega
      have he : j = s.size + 1 := by omega
      obtain ⟨a, cap, rfl, hac⟩ := ownsRow_shape hown
      obtain ⟨g, rfl, hcel⟩ := hac (by omega)
      subst he
      have HB : Hid _ := hb
      have HC : Hid (wr.ownsRow w.heap.size 3 1 (.slice (some ⟨g, 0, none⟩) (s.size + 1) cap) (s.size + 1) (icells (nBegin most) (s.size + 1))) := hown
      clear hown hb hac hcel
      go_wp2_with fail
      go_ret
      exact ⟨HB.out, g, cap, rfl, HC.out⟩

set_option maxRecDepth 20000 in
set_option maxHeartbeats 1600000 in
theorem sameRows_ok (g g' n cap cap' : Nat) (a b : Nat → Nat) (w : World) (hn : n ≤ 100) (ha : NatsAt w g n a) (hb : NatsAt w g' n b) :
    Calls Tryz.prog 102 #[.slice (some ⟨g, 0, none⟩) n cap, .slice (some ⟨g', 0, none⟩) n cap'] w fun e w' => e = .returned (.bool ((List.range n).all fun i => a i == b i)) ∧ Below w.heap.size w w' := by
  go_enter Tryz.func102, Tryz.ntmps102
  go_wp2_with fail
  go_loopw [5] (fun i' wr => ∃ i : Nat, i ≤ n ∧ i' = .int .i64 i ∧ Below w.heap.size w wr ∧ ∀ j, j < i → a j = b j) (fun i' _ => n - (intOf i').toNat)
  case atStart => exact ⟨0, by omega, rfl, Below.refl _ _, fun j hj => absurd hj (by omega)⟩
  case round =>
    obtain ⟨i, hi, rfl, hbw, heq⟩ := hrel
    by_cases hlt : i < n
    · have c0 := (hbw.cell (p := ⟨g, i, none⟩) (lt_of_cell (ha i hlt))).trans (ha i hlt)
      have c1 := (hbw.cell (p := ⟨g', i, none⟩) (lt_of_cell (hb i hlt))).trans (hb i hlt)
      have HE : Hid _ := heq
      have HB : Hid _ := hbw
      clear heq hbw
      by_cases hab : a i = b i
      · have hb1 : (((a i : Nat) : Int) != ((b i : Nat) : Int)) = false := by simp [hab]
        go_wp2_with fail
        go_quiet (fail)
        go_wp2_with fail
        go_roundw
        case rel =>
          refine ⟨i + 1, by omega, by go_num, below_drewN HB.out nq, fun j hj => ?_⟩
          by_cases e : j = i
          · rw [e]; exact hab
          · exact HE.out j (by omega)
        case measure => simp [intOf]; omega
      · have hb1 : (((a i : Nat) : Int) != ((b i : Nat) : Int)) = true := by simp; omega
        go_wp2_with fail
        go_quiet (fail)
        go_wp2_with fail
        go_ret
        refine ⟨ret_bool ?_, below_drewN HB.out nq⟩
        symm
        rw [List.all_eq_false]
        exact ⟨i, by simpa using hlt, by simpa using hab⟩
    · have he : i = n := by omega
      subst he
      go_wp2_with fail
      go_ret
      refine ⟨ret_bool ?_, hbw⟩
      symm
      rw [List.all_eq_true]
      intro j hj
      simpa using heq j (by simpa using hj)

set_option maxRecDepth 20000 in
set_option maxHeartbeats 1600000 in
theorem read_ok (g cap : Nat) (r : Nat → Nat) (s : ByteArray) (most c : Nat) (w : World) (hs : s.size ≤ 12) (hm : most ≤ 2) (hc : c < 8) (ht : IsText s) (hr : ∀ i, i ≤ s.size → r i ≤ 3) (ha : NatsAt w g (s.size + 1) r) :
    Calls Tryz.prog 64 #[.slice (some ⟨g, 0, none⟩) (s.size + 1) cap, .string s, .int .i64 most, .int .u8 (97 + (c : Int))] w fun e w' => Below w.heap.size w w' ∧ ∃ g cap, e = .returned (.slice (some ⟨g, 0, none⟩) (s.size + 1) cap) ∧ w'.ownsRow w.heap.size 3 1 (.slice (some ⟨g, 0, none⟩) (s.size + 1) cap) (s.size + 1) (icells (nHear (noteAt s) most r c) (s.size + 1)) := by
  obtain ⟨i3, hi3, hz3, hz31, hz32⟩ := info_parts Tryz.info3
  have c0 := ha 0 (by omega)
  have h0 := hr 0 (by omega)
  go_enter Tryz.func64, Tryz.ntmps64
  go_wp2_with (go_at_call 101; refine (capped_ok _ _ _ hm (by omega)).mono ?_; rintro e w' ⟨rfl, rfl⟩)
  have P0 : (w.alloc (.cells #[.int .i64 (min (r 0 : Int) (most : Int) + 1)] 3)).ownsRow w.heap.size 3 1 (.slice (some ⟨w.heap.size, 0, none⟩) 1 1) 1 (icells (nHear (noteAt s) most r c) 1) := by
    have h := World.ownsRow_lit (base := w.heap.size) (e := 3) (size := 1) w #[.int .i64 (min (r 0 : Int) (most : Int) + 1)] 1 (Nat.le_refl _) (by decide) rfl
    have e1 : (#[Value.int .i64 (min (r 0 : Int) (most : Int) + 1)] : Array Value).toList = icells (nHear (noteAt s) most r c) 1 := by
      simp [icells, nHear]; omega
    rw [e1] at h
    exact h
  clear c0
  go_loopw [10, 11, 12] (fun v j' _ wr => ∃ j : Nat, j ≤ s.size ∧ j' = .int .i64 ((j : Int) + 1) ∧ Below w.heap.size w wr ∧ wr.ownsRow w.heap.size 3 1 v (j + 1) (icells (nHear (noteAt s) most r c) (j + 1)))
    (fun _ j' _ _ => s.size + 1 - (intOf j').toNat)
  case atStart => exact ⟨0, by omega, rfl, (Below.refl _ _).alloc (Nat.le_refl _) _, P0⟩
  case round =>
    obtain ⟨j, hj, rfl, hb, hown⟩ := hrel
    clear P0
    have hbs := hb.size
    obtain ⟨a, cap', rfl, hac⟩ := ownsRow_shape hown
    obtain ⟨go, rfl, hcel⟩ := hac (by omega)
    by_cases hlt : j < s.size
    · have hch := isText_at ht j hlt
      have hno := noteAt_eq hlt
      have hgl : g < w.heap.size := lt_of_cell (ha 0 (by omega))
      have c0 := (hb.cell (p := ⟨g, j, none⟩) hgl).trans (ha j (by omega))
      have c1 := (hb.cell (p := ⟨g, j + 1, none⟩) hgl).trans (ha (j + 1) (by omega))
      have c2 := hcel j (by omega)
      rw [show (icells (nHear (noteAt s) most r c) (j + 1))[j]? = some (.int .i64 ((nHear (noteAt s) most r c j : Nat) : Int)) by simp [icells]] at c2
      have f0 := hr j (by omega)
      have f1 := hr (j + 1) (by omega)
      have hnl := nHear_le (noteAt s) most r c j
      have HS : Hid (nHear (noteAt s) most r c (j + 1) = min (min (min (r (j + 1) + 1) (nHear (noteAt s) most r c j + 1)) (if noteAt s j = c then r j else r j + 1)) (most + 1)) := rfl
      obtain ⟨hh, HH⟩ : ∃ x, Hid (nHear (noteAt s) most r c j = x) := ⟨_, rfl⟩
      obtain ⟨hn, HN⟩ : ∃ x, Hid (nHear (noteAt s) most r c (j + 1) = x) := ⟨_, rfl⟩
      rw [HH.out] at c2 hnl HS
      rw [HN.out] at HS
      have hna := fun v : Int => hown.alloc (.cells #[.int .i64 v] 3)
      have HB : Hid _ := hb
      have HOW : Hid (∀ x, (Value.slice (some ⟨go, 0, none⟩) (j + 1) cap').ownBlock = some x → w.heap.size ≤ x) := fun x e => (hown.lt x e).1
      have key : ∀ (w2 : World) (vv : Value) (v : Int), v = ((nHear (noteAt s) most r c (j + 1) : Nat) : Int) → w2.ownsRow w.heap.size 3 1 vv (j + 1 + 1) (icells (nHear (noteAt s) most r c) (j + 1) ++ [.int .i64 v]) → w2.ownsRow w.heap.size 3 1 vv (j + 1 + 1) (icells (nHear (noteAt s) most r c) (j + 1 + 1)) := by
        rintro w2 vv _ rfl h; rw [icells_succ]; exact h
      clear hb hown hac hcel
      by_cases hsame : noteAt s j = c
      · rw [if_pos hsame] at HS
        have hb1 : (((s[j].toNat : Int)) != 97 + (c : Int)) = false := by simp; omega
        go_wp2_with (first | (go_at_call 101; refine (capped_ok _ _ _ hm (by omega)).mono ?_; rintro e w' ⟨rfl, rfl⟩) | (at_builtin; refine wpList_append_fresh _ rfl _ _ 96 rfl w.heap.size 3 i3 (.int .i64 0) 1 8 Tryz.underlying96 hi3 hz3 hz31 hz32 rfl (by decide) _ (j + 1) (icells (nHear (noteAt s) most r c) (j + 1)) rfl (hna _) ⟨wr.heap.size, 0, none⟩ 1 1 _ rfl rfl (cell_one_new _ _ _) (by intro u hu; simp at hu; subst hu; rfl) (by decide) (by unfold maxLen; omega) (by omega) (by simp; omega) ?_; intro g2 cap2 w2 hown hgr hfr; have HO : Hid _ := hown; have HG : Hid _ := hgr; clear hown hgr hfr))
        all_goals go_roundw
        all_goals first
          | (simp [intOf]; omega)
          | exact ⟨j + 1, by omega, by go_num, (HB.out.alloc (by omega) _).grown HG.out (by simp; omega) (fun x e => HOW.out x e), key _ _ _ (by rw [HN.out]; have := HS.out; omega) HO.out⟩
      · rw [if_neg hsame] at HS
        have hb1 : (((s[j].toNat : Int)) != 97 + (c : Int)) = true := by simp; omega
        go_wp2_with (first | (go_at_call 101; refine (capped_ok _ _ _ hm (by omega)).mono ?_; rintro e w' ⟨rfl, rfl⟩) | (at_builtin; refine wpList_append_fresh _ rfl _ _ 96 rfl w.heap.size 3 i3 (.int .i64 0) 1 8 Tryz.underlying96 hi3 hz3 hz31 hz32 rfl (by decide) _ (j + 1) (icells (nHear (noteAt s) most r c) (j + 1)) rfl (hna _) ⟨wr.heap.size, 0, none⟩ 1 1 _ rfl rfl (cell_one_new _ _ _) (by intro u hu; simp at hu; subst hu; rfl) (by decide) (by unfold maxLen; omega) (by omega) (by simp; omega) ?_; intro g2 cap2 w2 hown hgr hfr; have HO : Hid _ := hown; have HG : Hid _ := hgr; clear hown hgr hfr))
        all_goals go_roundw
        all_goals first
          | (simp [intOf]; omega)
          | exact ⟨j + 1, by omega, by go_num, (HB.out.alloc (by omega) _).grown HG.out (by simp; omega) (fun x e => HOW.out x e), key _ _ _ (by rw [HN.out]; have := HS.out; omega) HO.out⟩
    · have hle : ¬ (j : Int) + 1 ≤ (s.size : Int) := by omega
      have he : j = s.size := by omega
      subst he
      have HB : Hid _ := hb
      have HC : Hid (wr.ownsRow w.heap.size 3 1 (.slice (some ⟨go, 0, none⟩) (s.size + 1) cap') (s.size + 1) (icells (nHear (noteAt s) most r c) (s.size + 1))) := hown
      clear hown hb hac hcel
      go_wp2_with fail
      go_ret
      exact ⟨HB.out, go, cap', rfl, HC.out⟩

theorem icells_at' (X : Nat → Nat) (k i : Nat) (h : i < k) : (icells X k)[i]? = some (.int .i64 ((X i : Nat) : Int)) := by simp [icells, h]
theorem own_nats {w : World} {base g n cap : Nat} {f : Nat → Nat} (h : w.ownsRow base 3 1 (.slice (some ⟨g, 0, none⟩) n cap) n (icells f n)) : NatsAt w g n f := by
  intro i hi
  rw [h.cellAt i (by omega)]
  exact icells_at' f n i hi
/-- The reference's states in memory: rows, each in a block of its own. -/
def scellsN (m : Nat) (R C : Nat → Nat) (k : Nat) : List Value := (List.range k).map fun i => .slice (some ⟨R i, 0, none⟩) m (C i)
theorem scellsN_succ (m : Nat) (R C : Nat → Nat) (k : Nat) : scellsN m R C (k + 1) = scellsN m R C k ++ [.slice (some ⟨R k, 0, none⟩) m (C k)] := by simp [scellsN, List.range_succ]

set_option maxRecDepth 20000 in
set_option maxHeartbeats 1600000 in
theorem rfind_ok (g n cap m gr cr : Nat) (R C : Nat → Nat) (F : Nat → Nat → Nat) (f : Nat → Nat) (w : World) (hn : n ≤ 100000000) (hm : m ≤ 100)
    (hc : ∀ k, k < n → w.cell? ⟨g, k, none⟩ = some (.slice (some ⟨R k, 0, none⟩) m (C k))) (hF : ∀ k, k < n → NatsAt w (R k) m (F k)) (hf : NatsAt w gr m f) :
    Calls Tryz.prog 65 #[.slice (some ⟨g, 0, none⟩) n cap, .slice (some ⟨gr, 0, none⟩) m cr] w fun e w' => Below w.heap.size w w' ∧ ∃ k, e = .returned (.int .i64 ((k : Nat) : Int)) ∧ k ≤ n ∧ (k < n → ∀ i, i < m → F k i = f i) ∧ ∀ j, j < k → ∃ i, i < m ∧ F j i ≠ f i := by
  go_enter Tryz.func65, Tryz.ntmps65
  go_wp2_with fail
  go_loopw [5, 6] (fun k' _ wr => ∃ k : Nat, k ≤ n ∧ k' = .int .i64 k ∧ Below w.heap.size w wr ∧ ∀ j, j < k → ∃ i, i < m ∧ F j i ≠ f i) (fun k' _ _ => n - (intOf k').toNat)
  case atStart => exact ⟨0, by omega, rfl, Below.refl _ _, fun j hj => absurd hj (by omega)⟩
  case round =>
    obtain ⟨k, hk, rfl, hb, hno⟩ := hrel
    by_cases hlt : k < n
    · have c0 := (hb.cell (p := ⟨g, k, none⟩) (lt_of_cell (hc k hlt))).trans (hc k hlt)
      have HC := sameRows_ok (R k) gr m (C k) cr (F k) f wr hm (fun i hi => (hb.cell (p := ⟨R k, i, none⟩) (lt_of_cell (hF k hlt i hi))).trans (hF k hlt i hi)) (fun i hi => (hb.cell (p := ⟨gr, i, none⟩) (lt_of_cell (hf i hi))).trans (hf i hi))
      obtain ⟨bb, HBB⟩ : ∃ x, Hid (((List.range m).all fun i => F k i == f i) = x) := ⟨_, rfl⟩
      rw [HBB.out] at HC
      have hbs := hb.size
      have HB : Hid _ := hb
      have HN : Hid _ := hno
      clear hb hno
      go_wp2_with fail
      refine HC.mono ?_
      clear HC
      rintro e w2 ⟨rfl, hB2⟩
      have HB2 : Hid _ := HB.out.trans (hB2.mono hbs)
      clear hB2 HB c0
      cases bb
      · go_wp2_with fail
        go_roundw
        case rel =>
          refine ⟨k + 1, by omega, by go_num, HB2.out, fun j hj => ?_⟩
          by_cases e : j = k
          · subst e
            have := HBB.out
            rw [List.all_eq_false] at this
            obtain ⟨i, hi, hne⟩ := this
            exact ⟨i, by simpa using hi, by simpa using hne⟩
          · exact HN.out j (by omega)
        case measure => simp [intOf]; omega
      · go_wp2_with fail
        go_ret
        refine ⟨HB2.out, k, rfl, by omega, fun _ i hi => ?_, HN.out⟩
        have := HBB.out
        rw [List.all_eq_true] at this
        simpa using this i (by simpa using hi)
    · have he : k = n := by omega
      subst he
      go_wp2_with fail
      go_ret
      exact ⟨hb, k, rfl, Nat.le_refl _, fun h' => absurd h' (by omega), hno⟩
end Go.Proofs.YtpngikmcjkjdaaaGreatDoor

namespace Go.Proofs.YtpngikmcjkjdaaaGreatDoor
open Go.RowKit
set_option linter.unusedVariables false

/-- The memory of the reference's Near: the states, the table that is being made. -/
structure NearMem (W : World) (B b : Nat) (w : World) (m n : Nat) (F : Nat → Nat → Nat) (SR SC : Nat → Nat) (vs va vn : Value) (ka kn : Nat) (A : Nat → Bool) (R C : Nat → Nat) (X : Nat → Nat → Nat) : Prop where
  blw : Below B W w
  own : w.ownsRow B 96 1 vs n (scellsN m SR SC n)
  rws : ∀ i, i < n → w.ownsRow B 3 1 (.slice (some ⟨SR i, 0, none⟩) m (SC i)) m (icells (F i) m)
  bm : BuildMem w b w va vn ka kn A R C X
  hb : B ≤ b
structure NearRow (W : World) (B b : Nat) (w : World) (m n : Nat) (F : Nat → Nat → Nat) (SR SC : Nat → Nat) (vs va vn vr : Value) (ka kn c : Nat) (A : Nat → Bool) (R C : Nat → Nat) (X : Nat → Nat → Nat) : Prop where
  mem : NearMem W B b w m n F SR SC vs va vn ka kn A R C X
  row : w.ownsRow (b + 1) 3 1 vr c (icells (X kn) c)
  dr : ∀ i, i < kn → vr.ownBlock ≠ some (R i)
  ds : ∀ i, i < n → vr.ownBlock ≠ some (SR i)

section
variable {W : World} {B b : Nat} {w w1 w2 : World} {m n : Nat} {F : Nat → Nat → Nat} {SR SC : Nat → Nat} {vs va vn vr : Value} {ka kn c : Nat} {A : Nat → Bool} {R C : Nat → Nat} {X : Nat → Nat → Nat}

theorem NearMem.siz (h : NearMem W B b w m n F SR SC vs va vn ka kn A R C X) : b < w.heap.size := heap_lt h.bm.two.blk
theorem NearMem.below (h : NearMem W B b w m n F SR SC vs va vn ka kn A R C X) (hb : Below w.heap.size w w1) : NearMem W B b w1 m n F SR SC vs va vn ka kn A R C X :=
  ⟨h.blw.trans (hb.mono (by have := h.siz; have := h.hb; omega)), ownsRow_below h.own hb, fun i hi => ownsRow_below (h.rws i hi) hb, (h.bm.below hb).rebase, h.hb⟩
theorem NearRow.below (h : NearRow W B b w m n F SR SC vs va vn vr ka kn c A R C X) (hb : Below w.heap.size w w1) : NearRow W B b w1 m n F SR SC vs va vn vr ka kn c A R C X :=
  ⟨h.mem.below hb, ownsRow_below h.row hb, h.dr, h.ds⟩
theorem NearMem.congr (h : NearMem W B b w m n F SR SC vs va vn ka kn A R C X) {A' : Nat → Bool} {X' : Nat → Nat → Nat} (ha : ∀ i, i < ka → A i = A' i) (hx : ∀ i c, i < kn → c < 8 → X i c = X' i c) : NearMem W B b w m n F SR SC vs va vn ka kn A' R C X' :=
  ⟨h.blw, h.own, h.rws, h.bm.congr ha hx, h.hb⟩
theorem NearRow.congr (h : NearRow W B b w m n F SR SC vs va vn vr ka kn c A R C X) {A' : Nat → Bool} {X' : Nat → Nat → Nat} (ha : ∀ i, i < ka → A i = A' i) (hx : ∀ i c, i < kn → c < 8 → X i c = X' i c) (hr : ∀ d, d < c → X kn d = X' kn d) : NearRow W B b w m n F SR SC vs va vn vr ka kn c A' R C X' :=
  ⟨h.mem.congr ha hx, by have := h.row; rw [icells_congr hr] at this; exact this, h.dr, h.ds⟩
theorem NearMem.fcongr (h : NearMem W B b w m n F SR SC vs va vn ka kn A R C X) {F' : Nat → Nat → Nat} (hf : ∀ i c, i < n → c < m → F i c = F' i c) : NearMem W B b w m n F' SR SC vs va vn ka kn A R C X :=
  ⟨h.blw, h.own, fun i hi => by have := h.rws i hi; rw [icells_congr (fun c hc => hf i c hi hc)] at this; exact this, h.bm, h.hb⟩
theorem NearRow.fcongr (h : NearRow W B b w m n F SR SC vs va vn vr ka kn c A R C X) {F' : Nat → Nat → Nat} (hf : ∀ i c, i < n → c < m → F i c = F' i c) : NearRow W B b w m n F' SR SC vs va vn vr ka kn c A R C X :=
  ⟨h.mem.fcongr hf, h.row, h.dr, h.ds⟩
theorem NearMem.row0 (h : NearMem W B b w m n F SR SC vs va vn ka kn A R C X) : NearRow W B b w m n F SR SC vs va vn (.slice none 0 0) ka kn 0 A R C X :=
  ⟨h, World.ownsRow_nil _ _ _ _, by intro i _ e; simp [Value.ownBlock] at e, by intro g _ e; simp [Value.ownBlock] at e⟩
/-- Accept has one part more. -/
theorem NearMem.acc (h : NearMem W B b w m n F SR SC vs va vn ka kn A R C X) {g cap : Nat} (hown : w2.ownsRow (b + 1) 4 1 (.slice (some ⟨g, 0, none⟩) (ka + 1) cap) (ka + 1) (acells A ka ++ [.bool (A ka)])) (hg : w.grownBy w2 va.ownBlock) (hf : va.ownBlock = some g ∨ g = w.heap.size) :
    NearMem W B b (w2.setCell ⟨b, 0, none⟩ (.slice (some ⟨g, 0, none⟩) (ka + 1) cap)) m n F SR SC vs (.slice (some ⟨g, 0, none⟩) (ka + 1) cap) vn (ka + 1) kn A R C X := by
  have hs := h.siz
  have hB := h.hb
  have h0 := h.bm.two.own0
  have hown' := own_keeps h.own h0 (by decide) hg
  have hblk := h.bm.two.grown0 hg
  refine ⟨(h.blw.grown hg (by omega) (fun k e => by have := (h0.lt k e).1; omega)).setCell (by simp; omega) _, ownsRow_set hown' _ _ (fun g' hg' => own_blk hown' hblk (by decide) g' hg'), fun i hi => ?_, (h.bm.acc hown hg hf).rebase, h.hb⟩
  have hr := own_keeps (h.rws i hi) h0 (by decide) hg
  exact ownsRow_set hr _ _ (fun g' hg' => own_blk hr hblk (by decide) g' hg')
/-- The row has one number more. -/
theorem NearRow.put (h : NearRow W B b w m n F SR SC vs va vn vr ka kn c A R C X) {g cap : Nat} (hown : w2.ownsRow (b + 1) 3 1 (.slice (some ⟨g, 0, none⟩) (c + 1) cap) (c + 1) (icells (X kn) c ++ [.int .i64 ((X kn c : Nat) : Int)])) (hg : w.grownBy w2 vr.ownBlock) (hf : vr.ownBlock = some g ∨ g = w.heap.size) :
    NearRow W B b w2 m n F SR SC vs va vn (.slice (some ⟨g, 0, none⟩) (c + 1) cap) ka kn (c + 1) A R C X := by
  have hm := h.mem
  have hs := hm.siz
  have hB := hm.hb
  rw [← icells_succ] at hown
  refine ⟨⟨hm.blw.grown hg (by omega) (fun k e => by have := (h.row.lt k e).1; omega), own_keeps hm.own h.row (by decide) hg, fun i hi => own_keeps2 (hm.rws i hi) (fun g' h1 h2 => h.ds i hi (by rw [h2]; exact h1.symm)) hg, (hm.bm.grown h.row h.dr hg).rebase, hm.hb⟩, hown, ?_, ?_⟩
  · intro i hi e
    simp only [Value.ownBlock, Option.some.injEq] at e
    rcases hf with hf | hf
    · exact h.dr i hi (by rw [hf, e])
    · have := ((hm.bm.rows i hi).lt (R i) rfl).2; omega
  · intro i hi e
    simp only [Value.ownBlock, Option.some.injEq] at e
    rcases hf with hf | hf
    · exact h.ds i hi (by rw [hf, e])
    · have := ((hm.rws i hi).lt (SR i) rfl).2; omega
/-- A state more. -/
theorem NearRow.state (h : NearRow W B b w m n F SR SC vs va vn vr ka kn c A R C X) {g cap gs cs : Nat} (hnew : w.ownsRow B 3 1 (.slice (some ⟨gs, 0, none⟩) m cs) m (icells (F n) m)) (hfr : vr.ownBlock ≠ some gs)
    (hown : w2.ownsRow B 96 1 (.slice (some ⟨g, 0, none⟩) (n + 1) cap) (n + 1) (scellsN m SR SC n ++ [.slice (some ⟨gs, 0, none⟩) m cs])) (hg : w.grownBy w2 vs.ownBlock) :
    NearRow W B b w2 m (n + 1) F (fun i => if i = n then gs else SR i) (fun i => if i = n then cs else SC i) (.slice (some ⟨g, 0, none⟩) (n + 1) cap) va vn vr ka kn c A R C X := by
  have hm := h.mem
  have hs := hm.siz
  have hB := hm.hb
  have es : scellsN m SR SC n ++ [.slice (some ⟨gs, 0, none⟩) m cs] = scellsN m (fun i => if i = n then gs else SR i) (fun i => if i = n then cs else SC i) (n + 1) := by
    rw [scellsN_succ]
    congr 1
    · simp only [scellsN]; apply List.map_congr_left; intro i hi; have : i < n := by simpa using hi
      rw [if_neg (by omega), if_neg (by omega)]
    · simp
  rw [es] at hown
  refine ⟨⟨hm.blw.grown hg (by omega) (fun k e => (hm.own.lt k e).1), hown, fun i hi => ?_, ?_, hm.hb⟩, own_keeps h.row hm.own (by decide) hg, h.dr, fun i hi => ?_⟩
  · by_cases e : i = n
    · subst e; simp only [if_true]; exact own_keeps hnew hm.own (by decide) hg
    · simp only [if_neg e]; exact own_keeps (hm.rws i (by omega)) hm.own (by decide) hg
  · have hbm := hm.bm
    refine ⟨⟨Below.refl _ _, ?_, own_keeps hbm.two.own0 hm.own (by decide) hg, own_keeps hbm.two.own1 hm.own (by decide) hg, hbm.two.dis⟩, fun i hi => own_keeps (hbm.rows i hi) hm.own (by decide) hg⟩
    rw [hg.block b hs (fun e => own_blk hm.own hbm.two.blk (by decide) b e.symm rfl)]; exact hbm.two.blk
  · by_cases e : i = n
    · subst e; simp only [if_true]; exact hfr
    · simp only [if_neg e]; exact h.ds i (by omega)
/-- The row is done. -/
theorem NearRow.done {gr cr : Nat} (h : NearRow W B b w m n F SR SC vs va vn (.slice (some ⟨gr, 0, none⟩) 8 cr) ka kn 8 A R C X) {g cap : Nat}
    (hown : w2.ownsRow (b + 1) 24 1 (.slice (some ⟨g, 0, none⟩) (kn + 1) cap) (kn + 1) (scells R C kn ++ [.slice (some ⟨gr, 0, none⟩) 8 cr])) (hg : w.grownBy w2 vn.ownBlock) (hf : vn.ownBlock = some g ∨ g = w.heap.size) :
    NearMem W B b (w2.setCell ⟨b, 1, none⟩ (.slice (some ⟨g, 0, none⟩) (kn + 1) cap)) m n F SR SC vs va (.slice (some ⟨g, 0, none⟩) (kn + 1) cap) ka (kn + 1) A (fun i => if i = kn then gr else R i) (fun i => if i = kn then cr else C i) X := by
  have hm := h.mem
  have hs := hm.siz
  have hB := hm.hb
  have h1 := hm.bm.two.own1
  have hown' := own_keeps hm.own h1 (by decide) hg
  have hblk := hm.bm.two.grown1 hg
  refine ⟨(hm.blw.grown hg (by omega) (fun k e => by have := (h1.lt k e).1; omega)).setCell (by simp; omega) _, ownsRow_set hown' _ _ (fun g' hg' => own_blk hown' hblk (by decide) g' hg'), fun i hi => ?_, (hm.bm.nxt h.row hown hg hf).rebase, hm.hb⟩
  have hr := own_keeps (hm.rws i hi) h1 (by decide) hg
  exact ownsRow_set hr _ _ (fun g' hg' => own_blk hr hblk (by decide) g' hg')
end

theorem own_mono {w : World} {base base' e s n : Nat} {v : Value} {x : List Value} (h : w.ownsRow base e s v n x) (hb : base' ≤ base) : w.ownsRow base' e s v n x := by
  refine ⟨h.1, ?_⟩
  rcases h.2 with h2 | ⟨g, cap, cur, h3, h4, h5⟩
  · exact .inl h2
  · exact .inr ⟨g, cap, cur, h3, Nat.le_trans hb h4, h5⟩
theorem nfind_old {E : Ear} (hm : E.most ≤ 2) {qs : List Nat} {r p q' : Nat} (hR : PRel E.good E.succ qs r) (hq' : E.good q') (hp : p < qs.length) (h : ∀ i, i < E.m + 1 → E.row (qs.getD p 0) i = E.row q' i) : q' ∈ qs ∧ qs.idxOf q' = p := by
  have e := Ear.row_inj hm (hR.inr _ (getD_mem qs p hp)) hq' (fun i hi => h i (by omega))
  have hmem : q' ∈ qs := by rw [← e]; exact getD_mem qs p hp
  refine ⟨hmem, ?_⟩
  have h1 := List.idxOf_lt_length_of_mem hmem
  have h3 : qs[p]'hp = q' := by rw [← e, List.getD_eq_getElem?_getD, List.getElem?_eq_getElem hp]; rfl
  have h4 : qs[qs.idxOf q']'h1 = q' := by simp [List.getElem_idxOf]
  exact (List.getElem_inj hR.nd).1 (h4.trans h3.symm)
theorem nfind_new {E : Ear} {qs : List Nat} {q' m : Nat} (h : ∀ j, j < qs.length → ∃ i, i < m ∧ E.row (qs.getD j 0) i ≠ E.row q' i) : q' ∉ qs := by
  intro hmem
  obtain ⟨i, hi, hne⟩ := h _ (List.idxOf_lt_length_of_mem hmem)
  rw [getD_idxOf qs q' hmem] at hne
  exact hne rfl
theorem acc_near {E : Ear} {ps : List Nat} {q i : Nat} (hi : i < ps.length) : (E.tab ps).acc i = (E.tab (ps ++ [q])).acc i := by simp only [Ear.tab]; rw [getD_app _ _ _ hi]
theorem Tryz.infoS : (Tryz.prog.info? 96).map (fun i => (i.zero, i.size, i.bytes)) = some (some (.slice none 0 0), 1, 24) := by kernel_rfl

set_option maxRecDepth 20000 in
set_option maxHeartbeats 16000000 in
theorem refNear_ok (s : ByteArray) (most budget : Nat) (w : World) (hs : s.size ≤ 12) (hm : most ≤ 2) (ht : IsText s) (hb0 : 1 ≤ budget) (hb1 : budget ≤ 40) :
    Calls Tryz.prog 28 #[.string s, .int .i64 most, .int .i64 budget] w
      (RJPost (Ear.lang ⟨noteAt s, s.size, most⟩) budget w) := by
  obtain ⟨i3, hi3, hz3, hz31, hz32⟩ := info_parts Tryz.info3
  obtain ⟨i4, hi4, hz4, hz41, hz42⟩ := info_parts Tryz.info4
  obtain ⟨iR, hiR, hzR, hzR1, hzR2⟩ := info_parts Tryz.infoR
  obtain ⟨iS, hiS, hzS, hzS1, hzS2⟩ := info_parts Tryz.infoS
  obtain ⟨E, HE⟩ : ∃ E : Ear, Hid (E = ⟨noteAt s, s.size, most⟩) := ⟨_, rfl⟩
  have hEm : E.most ≤ 2 := by rw [HE.out]; exact hm
  have hE12 : E.m ≤ 12 := by rw [HE.out]; exact hs
  have HT := fun w => isText_ok s 12 w (by unfold maxLen; omega) (by omega)
  rw [show (decide (s.size ≤ 12) && textTo s s.size) = true by simp [hs, (textTo_isText s).2 ht]] at HT
  have HBU := fun w => isBudget_ok (budget : Int) w
  rw [show (decide (1 ≤ (budget : Int)) && decide ((budget : Int) ≤ 40)) = true by simp; omega] at HBU
  have HST := fun w => start_ok s most w hs hm
  go_enter Tryz.func28, Tryz.ntmps28
  go_wp2_with (first | (go_at_call 61; refine (HT _).mono ?_; rintro e w' ⟨rfl, rfl⟩) | (go_at_call 62; refine (HBU _).mono ?_; rintro e w' ⟨rfl, rfl⟩) | (go_at_call 63; refine (HST _).mono ?_; rintro e w1 ⟨hB1, gs, cs, rfl, hO1⟩))
  have hEs : E.m = s.size := by rw [HE.out]
  have hEo : E.most = most := by rw [HE.out]
  have hEt : E.t = noteAt s := by rw [HE.out]
  obtain ⟨W, hW⟩ : ∃ W, W = w.alloc (.cells #[.slice none 0 0, .slice none 0 0] 41) := ⟨_, rfl⟩
  have BW : Below w.heap.size w W := by rw [hW]; exact (Below.refl _ _).alloc (Nat.le_refl _) _
  have hWs : W.heap.size = w.heap.size + 1 := by rw [hW]; simp
  have b0 : W.heap[w.heap.size]? = some (.cells #[.slice none 0 0, .slice none 0 0] 41 (0, 0)) := by rw [hW]; exact heap_at_new rfl
  rw [← hW] at hB1 hO1
  clear hW HT HBU HST
  have hs1 := hB1.size
  rw [hWs] at hO1
  have P0 : NearMem W (w.heap.size + 1) (w1.heap.size + 1) ((w1.alloc (.cells #[.slice (some ⟨gs, 0, none⟩) (s.size + 1) cs] 96)).alloc (.cells #[.slice none 0 0, .slice none 0 0] 41)) (s.size + 1) [0].length (fun i c => E.row ([0].getD i 0) c) (fun _ => gs) (fun _ => cs) (.slice (some ⟨w1.heap.size, 0, none⟩) 1 1) (.slice none 0 0) (.slice none 0 0) 0 0 (E.tab [0]).acc (fun _ => 0) (fun _ => 0) (pn E.succ [0]) := by
    refine ⟨((hB1.mono (by omega)).alloc (by omega) _).alloc (by simp; omega) _, ?_, fun i hi => ?_, BuildMem.start (Below.refl _ _) (heap_at_new (by simp)), by omega⟩
    · have h := World.ownsRow_lit (base := (w.heap.size + 1)) (e := 96) (size := 1) w1 #[.slice (some ⟨gs, 0, none⟩) (s.size + 1) cs] 1 (by omega) (by decide) rfl
      have h2 := h.alloc (.cells #[.slice none 0 0, .slice none 0 0] 41)
      exact h2
    · have hi0 : i = 0 := by simpa using hi
      subst hi0
      have h := (hO1.alloc (.cells #[.slice (some ⟨gs, 0, none⟩) (s.size + 1) cs] 96)).alloc (.cells #[.slice none 0 0, .slice none 0 0] 41)
      rw [icells_congr (Y := fun c => E.row 0 c) (fun c hc => by rw [← hEo]; exact (Ear.row_zero hEm (by omega)).symm)] at h
      exact h
  clear hO1
  have hbig : ∀ qs r, PRel E.good E.succ qs r → qs.length ≤ 67108864 := fun qs r h => Ear.bound hE12 h
  go_loopw [9, 11, 12, 13, 14, 15] (fun vs k' _ _ _ _ wr => ∃ (k : Nat) (ps : List Nat) (SR SC : Nat → Nat) (va vn : Value) (R C : Nat → Nat), k ≤ ps.length ∧ k' = .int .i64 k ∧ PRel E.good E.succ ps (8 * k) ∧ NearMem W (w.heap.size + 1) (w1.heap.size + 1) wr (s.size + 1) ps.length (fun i c => E.row (ps.getD i 0) c) SR SC vs va vn k k (E.tab ps).acc R C (pn E.succ ps))
    (fun _ k' _ _ _ _ _ => 67108864 - (intOf k').toNat)
  case atStart => exact ⟨0, [0], _, _, _, _, _, _, by simp, rfl, PRel.start Ear.good_zero, P0⟩
  case round =>
    obtain ⟨k, ps, SR, SC, va, vn, R, C, hk, rfl, hR, hP⟩ := hrel
    clear P0
    have hbd := hbig _ _ hR
    have hlen := hR.len
    have hbw : Below w.heap.size w wr := BW.trans (hP.blw.mono (by omega))
    obtain ⟨y0, y1, z0, z1⟩ := cell_two hP.bm.two.blk
    obtain ⟨ap, cp, rfl, hap⟩ := ownsRow_shape hP.own
    obtain ⟨gp, rfl, hcp⟩ := hap (by omega)
    have hszs := hP.siz
    by_cases hlt : k < ps.length
    · have c0 := (hcp k (by omega)).trans (show (scellsN (s.size + 1) SR SC ps.length)[k]? = some (.slice (some ⟨SR k, 0, none⟩) (s.size + 1) (SC k)) by simp [scellsN, hlt])
      have c1 := own_nats (hP.rws k hlt) s.size (by omega)
      obtain ⟨q, HQ⟩ : ∃ x, Hid (ps.getD k 0 = x) := ⟨_, rfl⟩
      try simp only at c1
      rw [HQ.out] at c1
      obtain ⟨tv, HTV⟩ : ∃ x, Hid (E.row q s.size = x) := ⟨_, rfl⟩
      rw [HTV.out] at c1
      have HAK : Hid ((E.tab ps).acc k = decide (tv ≤ most)) := by
        unfold Hid Ear.tab; simp only; rw [HQ.out, hEs, hEo, HTV.out]
      have HP : Hid (NearMem W (w.heap.size + 1) (w1.heap.size + 1) wr (s.size + 1) ps.length (fun i c => E.row (ps.getD i 0) c) SR SC (.slice (some ⟨gp, 0, none⟩) ps.length cp) va vn k k (E.tab ps).acc R C (pn E.succ ps)) := hP
      have HR : Hid (PRel E.good E.succ ps (8 * k)) := hR
      clear hP hR hap hcp
      obtain ⟨bb, HBB⟩ : ∃ x, Hid (decide (tv ≤ most) = x) := ⟨_, rfl⟩
      have hb1' := HBB.out
      rw [HBB.out] at HAK
      have HBa : Hid (NearMem W (w.heap.size + 1) (w1.heap.size + 1) ((wr.alloc (.cells #[.bool bb] 4)).drew) (s.size + 1) ps.length (fun i c => E.row (ps.getD i 0) c) SR SC (.slice (some ⟨gp, 0, none⟩) ps.length cp) va vn k k (E.tab ps).acc R C (pn E.succ ps)) := HP.out.below (((Below.refl _ _).alloc (Nat.le_refl _) _).drew)
      have hna := HBa.out.bm.two.own0
      have HACC : Hid (∀ g cap' w2, w2.ownsRow ((w1.heap.size + 1) + 1) 4 1 (.slice (some ⟨g, 0, none⟩) (k + 1) cap') (k + 1) (acells (E.tab ps).acc k ++ [.bool bb]) →
          ((wr.alloc (.cells #[.bool bb] 4)).drew).grownBy w2 va.ownBlock → (va.ownBlock = some g ∨ g = wr.heap.size + 1) →
          NearMem W (w.heap.size + 1) (w1.heap.size + 1) (w2.setCell ⟨(w1.heap.size + 1), 0, none⟩ (.slice (some ⟨g, 0, none⟩) (k + 1) cap')) (s.size + 1) ps.length (fun i c => E.row (ps.getD i 0) c) SR SC (.slice (some ⟨gp, 0, none⟩) ps.length cp) (.slice (some ⟨g, 0, none⟩) (k + 1) cap') vn (k + 1) k (E.tab ps).acc R C (pn E.succ ps)) := by
        intro g cap' w2 ho hg hf
        rw [← HAK.out] at ho
        refine HBa.out.acc ho hg ?_
        rcases hf with hf | hf
        · exact .inl hf
        · right; rw [hf]; simp
      have hs14 : (s.size : Int) < (s.size : Int) + 1 := by omega
      have hk14 : (k : Int) < (ps.length : Int) := by omega
      have hnp : ¬ (s.size : Int) < 0 := by omega
      go_upto_region 12 with fail
      go_cut [57] (fun _ wc => ∃ va', Hid (NearMem W (w.heap.size + 1) (w1.heap.size + 1) wc (s.size + 1) ps.length (fun i c => E.row (ps.getD i 0) c) SR SC (.slice (some ⟨gp, 0, none⟩) ps.length cp) va' vn (k + 1) k (E.tab ps).acc R C (pn E.succ ps)))
      case first =>
        go_region_law
          ((refine step_append_lies _ (by rfl) _ _ _ (by rfl) ((w1.heap.size + 1) + 1) 4 i4 (.bool false) 1 1 Tryz.underlying38 hi4 hz4 hz41 hz42 rfl (by decide) va k (acells (E.tab ps).acc k) (by rfl) hna ⟨wr.heap.size, 0, none⟩ 1 1 [.bool bb] (by rfl) (by rfl) (cell_one_new _ _ _) (by intro u hu; simp at hu; subst hu; rfl) (by decide) (by unfold maxLen; omega) (by omega) (by simp; omega) (wr.heap.size + 1) (by simp) ?_; intro g cap' w2 hown hgr hfr hlt2; obtain ⟨f0', f1', f2', f3'⟩ := cell_two (HBa.out.bm.two.grown0 hgr); have HFR : Hid _ := hfr; clear hfr))
        all_goals go_wp2_with fail
        all_goals go_meet
        all_goals exact ⟨_, HACC.out g cap' w2 hown hgr HFR.out⟩
      case rest =>
        obtain ⟨va', hB'⟩ := hcut
        clear HACC HBa hna y0 y1 z0 z1 hbw c0 c1 HP hb1'
        have R0 := hB'.out.row0
        have HGQ : Hid (E.good q) := by unfold Hid; rw [← HQ.out]; exact HR.out.inr _ (getD_mem ps k hlt)
        go_wp2_with fail
        clear hB'
        go_loopw [9, 12, 13, 14, 15] (fun vs vr c' _ _ wr => ∃ (c : Nat) (qs : List Nat) (SR SC : Nat → Nat), c ≤ 8 ∧ c' = .int .i64 c ∧ k < qs.length ∧ Hid (qs.getD k 0 = q) ∧ PRel E.good E.succ qs (8 * k + c) ∧ NearRow W (w.heap.size + 1) (w1.heap.size + 1) wr (s.size + 1) qs.length (fun i c => E.row (qs.getD i 0) c) SR SC vs va' vn vr (k + 1) k c (E.tab qs).acc R C (pn E.succ qs))
          (fun _ _ c' _ _ _ => 8 - (intOf c').toNat)
        case atStart => exact ⟨0, ps, SR, SC, by omega, rfl, hlt, HQ, HR.out, R0⟩
        case round =>
          clear R0 HR HQ hlt hbd hlen hszs HAK HBB HTV hs14 hk14 hnp
          obtain ⟨c, qs, SR, SC, hc, rfl, hlt, HQ, hR, hP⟩ := hrel
          have hbd := hbig _ _ hR
          have hlen := hR.len
          obtain ⟨ap, cp, rfl, hap⟩ := ownsRow_shape hP.mem.own
          obtain ⟨gq, rfl, hcp⟩ := hap (by omega)
          have hszs := hP.mem.siz
          have hce : ∀ i, i < qs.length → wr.cell? ⟨gq, i, none⟩ = some (.slice (some ⟨SR i, 0, none⟩) (s.size + 1) (SC i)) := fun i hi => (hcp i (by omega)).trans (by simp [scellsN, hi])
          have hna := fun i hi => own_nats (hP.mem.rws i hi)
          by_cases hl8 : c < 8
          · have c0 := hce k hlt
            have hrow := hna k hlt
            simp only [HQ.out] at hrow
            have HC := read_ok (SR k) (SC k) (E.row q) s most c wr hs hm hl8 ht (fun i _ => by have := E.row_lt q i; omega) hrow
            rw [icells_congr (Y := E.row (E.succ q c)) (fun i hi => by rw [← hEt, ← hEo]; exact (Ear.row_succ hEm q c (by omega)).symm)] at HC
            have hk14 : (k : Int) < (qs.length : Int) := by omega
            have hc8 : (c : Int) < 8 := by omega
            have HCE : Hid _ := hce
            have HNA : Hid _ := hna
            have HP : Hid (NearRow W (w.heap.size + 1) (w1.heap.size + 1) wr (s.size + 1) qs.length (fun i c => E.row (qs.getD i 0) c) SR SC (.slice (some ⟨gq, 0, none⟩) qs.length cp) va' vn u12 (k + 1) k c (E.tab qs).acc R C (pn E.succ qs)) := hP
            have HR : Hid (PRel E.good E.succ qs (8 * k + c)) := hR
            clear hP hR hap hcp hce hna hrow
            go_wp2_with fail
            refine HC.mono ?_
            clear HC
            rintro e w3 ⟨hB3, g3, cap3, rfl, hO3⟩
            have hs3 := hB3.size
            have hP3 := HP.out.below hB3
            have HC2 := rfind_ok gq qs.length cp (s.size + 1) g3 cap3 SR SC (fun i c => E.row (qs.getD i 0) c) (E.row (E.succ q c)) w3 (by omega) (by omega) (fun i hi => (hB3.cell (p := ⟨gq, i, none⟩) (lt_of_cell (HCE.out i hi))).trans (HCE.out i hi)) (fun i hi => own_nats (hP3.mem.rws i hi)) (own_nats hO3)
            have HP3 : Hid (NearRow W (w.heap.size + 1) (w1.heap.size + 1) w3 (s.size + 1) qs.length (fun i c => E.row (qs.getD i 0) c) SR SC (.slice (some ⟨gq, 0, none⟩) qs.length cp) va' vn u12 (k + 1) k c (E.tab qs).acc R C (pn E.succ qs)) := hP3
            have HO3 : Hid (w3.ownsRow wr.heap.size 3 1 (.slice (some ⟨g3, 0, none⟩) (s.size + 1) cap3) (s.size + 1) (icells (E.row (E.succ q c)) (s.size + 1))) := hO3
            have HV3 : Hid ((u12 : Value).ownBlock ≠ some g3) := fun e => by have := (HP.out.row.lt _ e).2; have := (hO3.lt g3 rfl).1; omega
            clear hP3 hO3 hB3 HCE HNA HP c0
            go_wp2_with fail
            refine HC2.mono ?_
            clear HC2
            rintro e w5 ⟨hB5, pp, rfl, hpn, hyes, hno⟩
            have hs5 := hB5.size
            have hP5 := HP3.out.below hB5
            have HP5 : Hid (NearRow W (w.heap.size + 1) (w1.heap.size + 1) w5 (s.size + 1) qs.length (fun i c => E.row (qs.getD i 0) c) SR SC (.slice (some ⟨gq, 0, none⟩) qs.length cp) va' vn u12 (k + 1) k c (E.tab qs).acc R C (pn E.succ qs)) := hP5
            have HO5 : Hid (w5.ownsRow (w.heap.size + 1) 3 1 (.slice (some ⟨g3, 0, none⟩) (s.size + 1) cap3) (s.size + 1) (icells (E.row (E.succ q c)) (s.size + 1))) := own_mono (ownsRow_below HO3.out hB5) (by omega)
            have hsz5 := hP5.mem.siz
            have HSQ : Hid (E.succ (qs.getD ((8 * k + c) / 8) 0) ((8 * k + c) % 8) = E.succ q c) := by
              unfold Hid; rw [show (8 * k + c) / 8 = k by omega, show (8 * k + c) % 8 = c by omega, HQ.out]
            have HGS : Hid (E.good (E.succ q c)) := Ear.succ_good hEm q c
            clear hP5 HP3 HO3 hB5
            by_cases hlp : pp < qs.length
            · have hold := nfind_old hEm HR.out HGS.out hlp (fun i hi => hyes hlp i (by omega))
              have hpb : ((pp : Int) == (qs.length : Int)) = false := by rw [beq_eq_false_iff_ne]; omega
              have HOL : Hid _ := hold
              clear hold hyes hno
              have HPa : Hid (NearRow W (w.heap.size + 1) (w1.heap.size + 1) (w5.alloc (.cells #[.int .i64 (pp : Int)] 3)) (s.size + 1) qs.length (fun i c => E.row (qs.getD i 0) c) SR SC (.slice (some ⟨gq, 0, none⟩) qs.length cp) va' vn u12 (k + 1) k c (E.tab qs).acc R C (pn E.succ qs)) := HP5.out.below ((Below.refl _ _).alloc (Nat.le_refl _) _)
              have hna := HPa.out.row
              go_wp2_with (at_builtin; refine wpList_append_fresh _ rfl _ _ 24 rfl ((w1.heap.size + 1) + 1) 3 i3 (.int .i64 0) 1 8 Tryz.underlying24 hi3 hz3 hz31 hz32 rfl (by decide) _ c (icells (pn E.succ qs k) c) rfl hna ⟨w5.heap.size, 0, none⟩ 1 1 [.int .i64 (pp : Int)] rfl rfl (cell_one_new _ _ _) (by intro u hu; simp at hu; subst hu; rfl) (by decide) (by unfold maxLen; omega) (by omega) (by simp; omega) ?_; intro g7 cap7 w7 hown hgr hfr; have HO : Hid _ := hown; have HG : Hid _ := hgr; have HFR : Hid _ := hfr; clear hown hgr hfr)
              go_roundw
              case rel =>
                have hpnc : pn E.succ qs k c = pp := by
                  unfold pn; rw [HQ.out]; exact HOL.out.2
                have ho := HO.out
                rw [← hpnc] at ho
                exact ⟨c + 1, qs, SR, SC, by omega, by go_num, hlt, HQ, HR.out.old (by omega) (by rw [HSQ.out]; exact HOL.out.1), HPa.out.put ho HG.out HFR.out⟩
              case measure => simp [intOf]; omega
            · have hpe : pp = qs.length := by omega
              subst hpe
              have hnew := nfind_new (E := E) (qs := qs) (q' := E.succ q c) (fun j hj => hno j hj)
              have HN : Hid _ := hnew
              clear hnew hno hyes
              have HPa0 : Hid (NearRow W (w.heap.size + 1) (w1.heap.size + 1) (w5.alloc (.cells #[.slice (some ⟨g3, 0, none⟩) (s.size + 1) cap3] 96)) (s.size + 1) qs.length (fun i x => E.row ((qs ++ [E.succ q c]).getD i 0) x) SR SC (.slice (some ⟨gq, 0, none⟩) qs.length cp) va' vn u12 (k + 1) k c (E.tab (qs ++ [E.succ q c])).acc R C (pn E.succ (qs ++ [E.succ q c]))) := ((HP5.out.below ((Below.refl _ _).alloc (Nat.le_refl _) _)).fcongr (fun i c' hi _ => by rw [getD_app _ _ _ hi])).congr (fun i hi => acc_near (by omega)) (fun x d hx hd => (pn_new HR.out x d hd (by omega)).symm) (fun d hd => (pn_new HR.out k d (by omega) (by omega)).symm)
              have hna0 := HPa0.out.mem.own
              have HNS : Hid ((w5.alloc (.cells #[.slice (some ⟨g3, 0, none⟩) (s.size + 1) cap3] 96)).ownsRow (w.heap.size + 1) 3 1 (.slice (some ⟨g3, 0, none⟩) (s.size + 1) cap3) (s.size + 1) (icells ((fun i x => E.row ((qs ++ [E.succ q c]).getD i 0) x) qs.length) (s.size + 1))) := by
                have h := HO5.out.alloc (.cells #[.slice (some ⟨g3, 0, none⟩) (s.size + 1) cap3] 96)
                have e1 : (fun c' => E.row ((qs ++ [E.succ q c]).getD qs.length 0) c') = E.row (E.succ q c) := by funext c'; simp [List.getD_eq_getElem?_getD]
                unfold Hid
                simp only [e1]
                exact h
              go_upto_region 21 with (at_builtin; refine wpList_append_fresh _ rfl _ _ 98 rfl (w.heap.size + 1) 96 iS (.slice none 0 0) 1 24 Tryz.underlying98 hiS hzS hzS1 hzS2 rfl (by decide) _ qs.length (scellsN (s.size + 1) SR SC qs.length) rfl hna0 ⟨w5.heap.size, 0, none⟩ 1 1 [.slice (some ⟨g3, 0, none⟩) (s.size + 1) cap3] rfl rfl (cell_one_new _ _ _) (by intro u hu; simp at hu; subst hu; rfl) (by decide) (by unfold maxLen; omega) (by omega) (by simp; omega) ?_; intro g6 cap6 w6 hown hgr hfr; have HO6 : Hid _ := hown; have HG6 : Hid _ := hgr; clear hown hgr hfr)
              have hP6 := HPa0.out.state HNS.out HV3.out HO6.out HG6.out
              have hsz6 := hP6.mem.siz
              have HPa : Hid (NearRow W (w.heap.size + 1) (w1.heap.size + 1) (w6.alloc (.cells #[.int .i64 (qs.length : Int)] 3)) (s.size + 1) (qs.length + 1) (fun i x => E.row ((qs ++ [E.succ q c]).getD i 0) x) (fun i => if i = qs.length then g3 else SR i) (fun i => if i = qs.length then cap3 else SC i) (.slice (some ⟨g6, 0, none⟩) (qs.length + 1) cap6) va' vn u12 (k + 1) k c (E.tab (qs ++ [E.succ q c])).acc R C (pn E.succ (qs ++ [E.succ q c]))) := hP6.below ((Below.refl _ _).alloc (Nat.le_refl _) _)
              have hna := HPa.out.row
              clear hP6 hna0 HPa0 HNS HO6 HG6 HO5 HP5
              go_wp2_with (at_builtin; refine wpList_append_fresh _ rfl _ _ 24 rfl ((w1.heap.size + 1) + 1) 3 i3 (.int .i64 0) 1 8 Tryz.underlying24 hi3 hz3 hz31 hz32 rfl (by decide) _ c (icells (pn E.succ (qs ++ [E.succ q c]) k) c) rfl hna ⟨w6.heap.size, 0, none⟩ 1 1 [.int .i64 (qs.length : Int)] rfl rfl (cell_one_new _ _ _) (by intro u hu; simp at hu; subst hu; rfl) (by decide) (by unfold maxLen; omega) (by omega) (by simp; omega) ?_; intro g7 cap7 w7 hown hgr hfr; have HO : Hid _ := hown; have HG : Hid _ := hgr; have HFR : Hid _ := hfr; clear hown hgr hfr)
              go_roundw
              case rel =>
                have hnew := HR.out.new (by omega) (by rw [HSQ.out]; exact HN.out) (by rw [HSQ.out]; exact HGS.out)
                rw [HSQ.out] at hnew
                have hpnew : pn E.succ (qs ++ [E.succ q c]) k c = qs.length := by
                  simp only [pn]
                  rw [getD_app _ _ _ hlt, HQ.out, List.idxOf_append, if_neg HN.out]; simp
                have ho := HO.out
                rw [← hpnew] at ho
                have hfin := HPa.out.put ho HG.out HFR.out
                refine ⟨c + 1, (qs ++ [E.succ q c]), (fun i => if i = qs.length then g3 else SR i), (fun i => if i = qs.length then cap3 else SC i), by omega, by go_num, by simp; omega, by unfold Hid; rw [getD_app _ _ _ hlt]; exact HQ.out, hnew, ?_⟩
                rw [show (qs ++ [E.succ q c]).length = qs.length + 1 by simp]
                exact hfin
              case measure => simp [intOf]; omega
          · have he : c = 8 := by omega
            subst he
            obtain ⟨ar, cr', rfl, har⟩ := ownsRow_shape hP.row
            obtain ⟨gr, rfl, _⟩ := har (by omega)
            obtain ⟨y0, y1, _, _⟩ := cell_two hP.mem.bm.two.blk
            have HBi : Hid (NearRow W (w.heap.size + 1) (w1.heap.size + 1) (wr.alloc (.cells #[.slice (some ⟨gr, 0, none⟩) 8 cr'] 24)) (s.size + 1) qs.length (fun i x => E.row (qs.getD i 0) x) SR SC (.slice (some ⟨gq, 0, none⟩) qs.length cp) va' vn (.slice (some ⟨gr, 0, none⟩) 8 cr') (k + 1) k 8 (E.tab qs).acc R C (pn E.succ qs)) := hP.below ((Below.refl _ _).alloc (Nat.le_refl _) _)
            have hna1 := HBi.out.mem.bm.two.own1
            have HR : Hid (PRel E.good E.succ qs (8 * k + 8)) := hR
            clear hP hR hap hcp har hce hna
            go_wp2_with (at_builtin; refine wpList_append_fresh _ rfl _ _ 39 rfl ((w1.heap.size + 1) + 1) 24 iR (.slice none 0 0) 1 24 Tryz.underlying39 hiR hzR hzR1 hzR2 rfl (by decide) _ k (scells R C k) rfl hna1 ⟨wr.heap.size, 0, none⟩ 1 1 [.slice (some ⟨gr, 0, none⟩) 8 cr'] rfl rfl (cell_one_new _ _ _) (by intro u hu; simp at hu; subst hu; rfl) (by decide) (by unfold maxLen; omega) (by omega) (by simp; omega) ?_; intro g2 cap2 w2 hown hgr hfr; obtain ⟨f0', f1', f2', f3'⟩ := cell_two (HBi.out.mem.bm.two.grown1 hgr); have HO : Hid _ := hown; have HG : Hid _ := hgr; have HFR : Hid _ := hfr; clear hown hgr hfr)
            go_roundw
            case rel =>
              exact ⟨k + 1, qs, SR, SC, _, _, _, _, by omega, by go_num, by rw [show 8 * (k + 1) = 8 * k + 8 by omega]; exact HR.out, HBi.out.done HO.out HG.out HFR.out⟩
            case measure => simp [intOf]; omega
    · have he : k = ps.length := by omega
      subst he
      obtain ⟨Z, rfl, rfl, hT, hFr⟩ := hP.bm.done (N := E.tab ps) (by omega) rfl (fun i hi => rfl) (fun i c hi hc => rfl)
      have hnum := Ear.numbered hR
      have hLg : Hid (∀ x, Notes x → (E.tab ps).accepts x = E.lang x) := fun x hx => Ear.tab_accepts hR x hx
      have HC := rleast_ok Z (E.tab ps) wr hlen (by show ps.length ≤ 100000000; omega) (fun i c hi hc => hnum.nx i c hi hc) hT
      rw [show (E.tab ps).n = ps.length from rfl] at HC
      have HPb : Hid (Below (w.heap.size + 1) W wr) := hP.blw
      clear hP hT hR hap hcp hFr hnum z0 z1
      go_wp2_with fail
      refine HC.mono ?_
      clear HC
      rintro e w5 ⟨hB5, Q, R, hR, rfl, hT, hF⟩
      have hs5 := hB5.size
      have hR2 : Hid (IsLeast R E.lang) := hR.lang_congr hLg.out
      have BW5 : Hid (Below w.heap.size w w5) := hbw.trans (hB5.mono (by have := hbw.size; omega))
      have HD5 : Hid (w5.heap[w.heap.size]? = some (.cells #[.slice none 0 0, .slice none 0 0] 41 (0, 0))) := (hB5.block _ (by omega)).trans ((HPb.out.block _ (by omega)).trans b0)
      have HT5 : Hid (TabAt w5 Q R) := hT
      have HFr : Hid (Q.From wr.heap.size R.n) := hF
      clear hR hLg hB5 hT hF y0 y1 hbw
      by_cases hle : R.n ≤ budget
      · have HC := bounded_yes (some ⟨Q.ba, Q.oa, none⟩) (some ⟨Q.bn, Q.on, none⟩) R.n Q.ca R.n Q.cn (budget : Int) w5 (by omega)
        go_wp2_with fail
        refine HC.mono ?_
        clear HC
        rintro e w7 ⟨rfl, hB7⟩
        have hs7 := hB7.size
        have BW7 : Below w.heap.size w w7 := BW5.out.trans (hB7.mono (by have := BW5.out.size; omega))
        have d2 : w7.heap[w.heap.size]? = some (.cells #[.slice none 0 0, .slice none 0 0] 41 (0, 0)) := (hB7.block _ (by omega)).trans HD5.out
        have HT7 : Hid _ := HT5.out.below hB7
        obtain ⟨q0, q1, p0, p1⟩ := cell_two d2
        clear hB7
        go_wp2_with fail
        obtain ⟨_, r2, r1⟩ := res_two (u := .slice (some ⟨Q.ba, Q.oa, none⟩) R.n Q.ca) (v := .slice (some ⟨Q.bn, Q.on, none⟩) R.n Q.cn) d2
        refine bodyPost_ret (v := .tuple #[.agg #[.slice (some ⟨Q.ba, Q.oa, none⟩) R.n Q.ca, .slice (some ⟨Q.bn, Q.on, none⟩) R.n Q.cn], .int .i64 0]) (by simp [results, Tryz.results28, go_sem, r1, r2]) rfl ?_
        exact ⟨below_res BW7 (b := w.heap.size) (by omega) _ _, .inl ⟨Q, R, by rw [← HE.out]; exact hR2.out, hle, rfl, HT7.out.res HFr.out (b := w.heap.size) (by omega) _ _⟩⟩
      · have HC := bounded_no (some ⟨Q.ba, Q.oa, none⟩) (some ⟨Q.bn, Q.on, none⟩) R.n Q.ca R.n Q.cn (budget : Int) w5 (by omega)
        go_wp2_with fail
        refine HC.mono ?_
        clear HC
        rintro e w7 ⟨rfl, hB7⟩
        have hs7 := hB7.size
        have BW7 : Below w.heap.size w w7 := BW5.out.trans (hB7.mono (by have := BW5.out.size; omega))
        have d2 : w7.heap[w.heap.size]? = some (.cells #[.slice none 0 0, .slice none 0 0] 41 (0, 0)) := (hB7.block _ (by omega)).trans HD5.out
        obtain ⟨q0, q1, p0, p1⟩ := cell_two d2
        clear hB7
        go_wp2_with fail
        obtain ⟨_, r2, r1⟩ := res_two (u := .slice none 0 0) (v := .slice none 0 0) d2
        refine bodyPost_ret (v := .tuple #[.agg #[.slice none 0 0, .slice none 0 0], .int .i64 5]) (by simp [results, Tryz.results28, go_sem, r1, r2]) rfl ?_
        exact ⟨below_res BW7 (b := w.heap.size) (by omega) _ _, .inr ⟨rfl, R, by rw [← HE.out]; exact hR2.out, by omega⟩⟩
end Go.Proofs.YtpngikmcjkjdaaaGreatDoor

namespace Go.Proofs.YtpngikmcjkjdaaaGreatDoor
open Go.RowKit
set_option linter.unusedVariables false

set_option maxRecDepth 20000 in
set_option maxHeartbeats 2000000 in
theorem refNear_no (s : ByteArray) (d b : Int) (w : World) (hss : s.size ≤ maxLen) (hne : nearErr s d b ≠ 0) :
    Calls Tryz.prog 28 #[.string s, .int .i64 d, .int .i64 b] w fun e w' => e = .returned (.tuple #[.agg #[.slice none 0 0, .slice none 0 0], .int .i64 (nearErr s d b)]) ∧ Below w.heap.size w w' := by
  obtain ⟨W0, hW0⟩ : ∃ W, W = w.alloc (.cells #[.slice none 0 0, .slice none 0 0] 41) := ⟨_, rfl⟩
  have BW0 : Below w.heap.size w W0 := by rw [hW0]; exact (Below.refl _ _).alloc (Nat.le_refl _) _
  have bb0 : W0.heap[w.heap.size]? = some (.cells #[.slice none 0 0, .slice none 0 0] 41 (0, 0)) := by rw [hW0]; exact heap_at_new rfl
  have HF0 : Hid _ := below_res BW0 (b := w.heap.size) (by omega) (.slice none 0 0) (.slice none 0 0)
  obtain ⟨q0, q1, p0, p1⟩ := cell_two bb0
  obtain ⟨_, r2, r1⟩ := res_two (u := .slice none 0 0) (v := .slice none 0 0) bb0
  have HR1 : Hid _ := r1
  have HR2 : Hid _ := r2
  clear r1 r2
  have HT := isText_ok s 12 W0 hss (by omega)
  have HB := isBudget_ok b W0
  unfold nearErr at hne ⊢
  cases htt : (decide (s.size ≤ 12) && textTo s s.size)
  · rw [htt] at HT
    simp only [if_true]
    clear htt hne HB
    go_enter Tryz.func28, Tryz.ntmps28
    go_upto_region 1 with fail
    rw [← hW0]
    clear hW0
    go_wp2_with (go_at_call 61; refine HT.mono ?_; rintro e w' ⟨rfl, hw'⟩; obtain rfl : W0 = w' := hw'.symm)
    have r1 := HR1.out
    have r2 := HR2.out
    refine bodyPost_ret (v := .tuple #[.agg #[.slice none 0 0, .slice none 0 0], .int .i64 7]) (by simp [results, Tryz.results28, go_sem, r1, r2]) rfl ?_
    exact ⟨rfl, HF0.out⟩
  · rw [htt] at hne HT
    simp only [Bool.true_eq_false, if_false] at hne ⊢
    have hcase : (d < 0) ∨ (¬ d < 0 ∧ 2 < d) ∨ (¬ d < 0 ∧ ¬ 2 < d ∧ (decide (1 ≤ b) && decide (b ≤ 40)) = false) := by
      by_cases h1 : d < 0
      · exact .inl h1
      · by_cases h2 : 2 < d
        · exact .inr (.inl ⟨h1, h2⟩)
        · refine .inr (.inr ⟨h1, h2, ?_⟩)
          rw [if_neg (by omega)] at hne
          have hb : b < 1 ∨ 40 < b := by
            refine Classical.byContradiction (fun h => ?_)
            rw [if_neg h] at hne; exact hne rfl
          simp; omega
    have h8 : (if d < 0 ∨ 2 < d then (8 : Int) else if b < 1 ∨ 40 < b then 8 else 0) = 8 := by
      by_cases h1 : d < 0 ∨ 2 < d
      · rw [if_pos h1]
      · rw [if_neg h1] at hne ⊢
        by_cases h2 : b < 1 ∨ 40 < b
        · rw [if_pos h2]
        · rw [if_neg h2] at hne; exact absurd rfl hne
    rw [h8]
    obtain ⟨bo, HBO⟩ : ∃ x, Hid ((decide (1 ≤ b) && decide (b ≤ 40)) = x) := ⟨_, rfl⟩
    rw [HBO.out] at hcase HB
    clear htt hne h8 HBO
    rcases hcase with h1 | ⟨h1, h2⟩ | ⟨h1, h2, rfl⟩
    all_goals
      go_enter Tryz.func28, Tryz.ntmps28
      go_upto_region 1 with fail
      rw [← hW0]
      clear hW0
      go_wp2_with (first | (go_at_call 61; refine HT.mono ?_; rintro e w' ⟨rfl, hw'⟩; obtain rfl : W0 = w' := hw'.symm) | (go_at_call 62; refine HB.mono ?_; rintro e w' ⟨rfl, hw'⟩; obtain rfl : W0 = w' := hw'.symm))
      have r1 := HR1.out
      have r2 := HR2.out
      refine bodyPost_ret (v := .tuple #[.agg #[.slice none 0 0, .slice none 0 0], .int .i64 8]) (by simp [results, Tryz.results28, go_sem, r1, r2]) rfl ?_
      exact ⟨rfl, HF0.out⟩
end Go.Proofs.YtpngikmcjkjdaaaGreatDoor
