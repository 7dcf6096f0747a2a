import Derived.Test.YtpngikmcjkjdaaaGreatDoorStep
import Derived.Deep.QuietTactic
import Derived.BigQuiet
namespace Go.Proofs.YtpngikmcjkjdaaaGreatDoor
open Go.RowKit
set_option linter.unusedVariables false

/-- A script, as it came in. -/
structure OpsAt (w : World) (ao : Option Addr) (len : Nat) (kd fa fb fc fd : Nat → Int) (st : Nat → ByteArray) (lo : Nat → Option Addr) (ll lc : Nat → Nat) (z : Nat → Nat → Int) : Prop where
  ln : len ≤ 4398046511104
  cel : ∀ i, i < len → ∃ b o, ao = some ⟨b, o, none⟩ ∧ w.cell? ⟨b, o + i * 7, none⟩ = some (.int .i64 (kd i)) ∧ w.cell? ⟨b, o + i * 7 + 1, none⟩ = some (.int .i64 (fa i)) ∧ w.cell? ⟨b, o + i * 7 + 2, none⟩ = some (.int .i64 (fb i)) ∧ w.cell? ⟨b, o + i * 7 + 3, none⟩ = some (.int .i64 (fc i)) ∧
    w.cell? ⟨b, o + i * 7 + 4, none⟩ = some (.int .i64 (fd i)) ∧ w.cell? ⟨b, o + i * 7 + 5, none⟩ = some (.string (st i)) ∧ w.cell? ⟨b, o + i * 7 + 6, none⟩ = some (.slice (lo i) (ll i) (lc i))
  ra : ∀ i, i < len → -9223372036854775808 ≤ fa i ∧ fa i ≤ 9223372036854775807
  rb : ∀ i, i < len → -9223372036854775808 ≤ fb i ∧ fb i ≤ 9223372036854775807
  rc : ∀ i, i < len → -9223372036854775808 ≤ fc i ∧ fc i ≤ 9223372036854775807
  str : ∀ i, i < len → (st i).size ≤ maxLen
  lst : ∀ i, i < len → LCode w (lo i) (ll i) (z i)
theorem OpsAt.below {w w' : World} {ao : Option Addr} {len : Nat} {kd fa fb fc fd : Nat → Int} {st : Nat → ByteArray} {lo : Nat → Option Addr} {ll lc : Nat → Nat} {z : Nat → Nat → Int} (h : OpsAt w ao len kd fa fb fc fd st lo ll lc z) (hb : Below w.heap.size w w') : OpsAt w' ao len kd fa fb fc fd st lo ll lc z :=
  ⟨h.ln, fun i hi => by
    obtain ⟨b, o, e, c0, c1, c2, c3, c4, c5, c6⟩ := h.cel i hi
    have hk := fun x => (bcell hb).1 b x (lt_of_cell c0)
    exact ⟨b, o, e, by rw [hk]; exact c0, by rw [hk]; exact c1, by rw [hk]; exact c2, by rw [hk]; exact c3, by rw [hk]; exact c4, by rw [hk]; exact c5, by rw [hk]; exact c6⟩, h.ra, h.rb, h.rc, h.str, fun i hi => (h.lst i hi).below hb⟩
def inB (k : Int) (ks : Nat → Int) : Nat → Bool
  | 0 => (k == 1) || (k == 2)
  | j + 1 => inB k ks j || (k == ks j)
theorem inB_iff (k : Int) (ks : Nat → Int) (n : Nat) : inB k ks n = true ↔ k = 1 ∨ k = 2 ∨ ∃ j, j < n ∧ k = ks j := by
  induction n with
  | zero => simp [inB]
  | succ n ih =>
    simp only [inB, Bool.or_eq_true, ih, beq_iff_eq]
    constructor
    · rintro ((h | h | ⟨j, hj, h⟩) | h)
      · exact .inl h
      · exact .inr (.inl h)
      · exact .inr (.inr ⟨j, by omega, h⟩)
      · exact .inr (.inr ⟨n, by omega, h⟩)
    · rintro (h | h | ⟨j, hj, h⟩)
      · exact .inl (.inl h)
      · exact .inl (.inr (.inl h))
      · by_cases e : j = n
        · subst e; exact .inr h
        · exact .inl (.inr (.inr ⟨j, by omega, h⟩))

set_option maxRecDepth 20000 in
set_option maxHeartbeats 4000000 in
theorem plays_ok (ao : Option Addr) (len cap : Nat) (kd fa fb fc fd : Nat → Int) (st : Nat → ByteArray) (lo : Nat → Option Addr) (ll lc : Nat → Nat) (z : Nat → Nat → Int) (w : World) (h : OpsAt w ao len kd fa fb fc fd st lo ll lc z)
    (bk nk ck : Nat) (ks : Nat → Int) (hk : ∀ j, j < nk → w.cell? ⟨bk, j, none⟩ = some (.int .i64 (ks j))) (hnk : nk ≤ 100)
    (HS : ∀ i, i < len → inB (kd i) ks nk = true → ∀ (w' : World) (vts : Value) (hs : List Hd), Below w.heap.size w w' → WdAt (.plain w) w' w.heap.size vts hs → hs.length ≤ i →
      Calls Tryz.prog 12 #[.pointer (some ⟨w.heap.size, 0, none⟩), .agg #[.int .i64 (kd i), .int .i64 (fa i), .int .i64 (fb i), .int .i64 (fc i), .int .i64 (fd i), .string (st i), .slice (lo i) (ll i) (lc i)]] w' (StepPost (.plain w) w.heap.size hs.length)) :
    Calls Tryz.prog 11 #[.slice ao len cap, .slice (some ⟨bk, 0, none⟩) nk ck] w fun e w' => e = .returned (.bool true) ∧ Below w.heap.size w w' := by
  have hln := h.ln
  have P0 : WdAt (.plain w) (w.alloc (.cells #[.slice none 0 0, .slice none 0 0, .slice none 0 0] 31)) w.heap.size (.slice none 0 0) [] :=
    ⟨(Below.refl _ _).alloc (Nat.le_refl _) _, heap_at_new rfl, World.ownsRow_nil _ _ _ _, fun d hd => by simp at hd, fun d hd => by simp at hd, List.Pairwise.nil, fun g e => by simp [Value.ownBlock] at e, fun k o e => by simp [Fw.plain] at e⟩
  go_enter Tryz.func11, Tryz.ntmps11
  go_wp2_with fail
  go_loopw [6, 7, 8, 9] (fun i' _ _ _ wr => ∃ (i : Nat) (vts : Value) (hs : List Hd), i ≤ len ∧ i' = .int .i64 i ∧ WdAt (.plain w) wr w.heap.size vts hs ∧ hs.length ≤ i) (fun i' _ _ _ _ => len - (intOf i').toNat)
  case atStart => exact ⟨0, _, [], by omega, rfl, P0, by simp⟩
  case round =>
    obtain ⟨i, vts, hs, hi, rfl, hP, hl⟩ := hrel
    clear P0
    by_cases hlt : i < len
    · obtain ⟨b, o, rfl, c0, c1, c2, c3, c4, c5, c6⟩ := (h.below hP.blw).cel i hlt
      have HK : Hid (∀ j, j < nk → wr.cell? ⟨bk, j, none⟩ = some (.int .i64 (ks j))) := fun j hj => by rw [(bcell hP.blw).1 _ _ (lt_of_cell (hk j hj))]; exact hk j hj
      have HP : Hid _ := hP
      have HSS : Hid _ := HS i hlt
      have H0 : Hid _ := h
      clear hP h HS hk
      obtain ⟨k, HKD⟩ : ∃ x, Hid (kd i = x) := ⟨_, rfl⟩
      rw [HKD.out] at c0
      rename World => wo
      go_upto_region 5 with fail
      go_cut [7] (fun v wc => v = .bool (inB k ks 0) ∧ wc = wo)
      case first =>
        by_cases k1 : k = 1
        · subst k1
          go_wp2_with fail
          go_meet
          exact ⟨rfl, rfl⟩
        · have hb1 : (k == 1) = false := by simp [k1]
          go_wp2_with fail
          go_meet
          exact ⟨by simp [inB, hb1], rfl⟩
      case rest =>
        obtain ⟨rfl, hwc⟩ := hcut
        obtain rfl : wo = wc := hwc.symm
        go_wp2_with fail
        go_loopw [7, 8] (fun v j' wr => ∃ j q : Nat, j ≤ nk ∧ v = .bool (inB k ks j) ∧ j' = .int .i64 j ∧ wr = wo.drewN q) (fun _ j' _ => nk - (intOf j').toNat)
        case atStart => exact ⟨0, 0, by omega, rfl, rfl, rfl⟩
        case round =>
          obtain ⟨j, q, hj, rfl, rfl, rfl⟩ := hrel
          by_cases hltj : j < nk
          · have d0 := HK.out j hltj
            obtain ⟨kj, HKJ⟩ : ∃ x, Hid (ks j = x) := ⟨_, rfl⟩
            rw [HKJ.out] at d0
            obtain ⟨bb, HBB⟩ : ∃ x, Hid (inB k ks j = x) := ⟨_, rfl⟩
            rw [HBB.out]
            have HN : Hid (inB k ks (j + 1) = (bb || (k == kj))) := by unfold Hid; simp only [inB]; rw [HBB.out, HKJ.out]
            cases bb
            · go_wp2_with fail
              go_quiet (fail)
              go_wp2_with fail
              go_roundw
              case rel => exact ⟨j + 1, _, by omega, by rw [HN.out]; simp, by go_num, rfl⟩
              case measure => simp [intOf]; omega
            · go_wp2_with fail
              go_quiet (fail)
              go_wp2_with fail
              go_roundw
              case rel => exact ⟨j + 1, _, by omega, by rw [HN.out]; simp, by go_num, rfl⟩
              case measure => simp [intOf]; omega
          · have he : j = nk := by omega
            subst he
            obtain ⟨bb, HBB⟩ : ∃ x, Hid (inB k ks j = x) := ⟨_, rfl⟩
            rw [HBB.out]
            have hPq := HP.out.below (below_drewN (Below.refl _ _) q)
            have hBq : Below w.heap.size w (wo.drewN q) := hPq.blw
            cases bb
            · have HPQ : Hid _ := hPq
              clear hPq hBq
              go_wp2_with fail
              go_roundw
              case rel => exact ⟨i + 1, vts, hs, by omega, by go_num, HPQ.out, by omega⟩
              case measure => simp [intOf]; omega
            · have HC := HSS.out (by rw [HKD.out]; exact HBB.out) (wo.drewN q) vts hs hBq hPq hl
              rw [HKD.out] at HC
              clear hPq hBq
              go_wp2_with fail
              refine Calls.mono HC ?_
              rintro e w1 ⟨rfl, vts', hs', hW1, hl1⟩
              have HC2 := looks_ok w w1 w.heap.size vts' hs' hW1 (by omega)
              have HW1 : Hid _ := hW1
              clear HC hW1
              go_wp2_with fail
              refine HC2.mono ?_
              rintro e w2 ⟨rfl, hB2⟩
              clear HC2
              go_wp2_with fail
              go_roundw
              case rel => exact ⟨i + 1, vts', hs', by omega, by go_num, HW1.out.below hB2, by omega⟩
              case measure => simp [intOf]; omega
    · have he : i = len := by omega
      subst he
      have HP : Hid _ := hP
      clear hP h HS hk
      go_wp2_with fail
      go_ret
      exact ⟨rfl, HP.out.blw⟩
end Go.Proofs.YtpngikmcjkjdaaaGreatDoor
