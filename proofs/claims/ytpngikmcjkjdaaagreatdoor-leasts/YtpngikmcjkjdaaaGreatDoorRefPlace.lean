import Derived.Test.YtpngikmcjkjdaaaGreatDoorRefDiff
import Derived.Test.YtpngikmcjkjdaaaGreatDoorBuildM
import Derived.Deep.RegionLaw
import Derived.Deep.AppendLies
import Derived.Deep.RegionWith
namespace Go.Proofs.YtpngikmcjkjdaaaGreatDoor
open Go.RowKit
set_option linter.unusedVariables false

/-- Which of the states in a list means the same. -/
def PlacePost (l : Nat) (fs : Nat → Nat) (D : Nat → Nat → Bool) (s : Nat) (w : World) (e : Ending) (w' : World) : Prop :=
  w' = w ∧ ((∃ k, k < l ∧ e = .returned (.int .i64 k) ∧ D (fs k) s = false ∧ ∀ j, j < k → D (fs j) s = true) ∨ (e = .returned (.int .i64 (-1)) ∧ ∀ j, j < l → D (fs j) s = true))
set_option maxRecDepth 20000 in
set_option maxHeartbeats 1000000 in
theorem place_ok (ao : Option Addr) (gl l cl : Nat) (fs : Nat → Nat) (B g n : Nat) (rb : Nat → Nat) (D : Nat → Nat → Bool) (s : Nat) (w : World) (ha : 0 < l → ao = some ⟨gl, 0, none⟩) (hl : ∀ i, i < l → w.cell? ⟨gl, i, none⟩ = some (.int .i64 (fs i))) (hfs : ∀ i, i < l → fs i < n)
    (hm : MatTo w B g n n rb D) (hs : s < n) (hl0 : l ≤ 100000000) (hn : n ≤ 100000000) :
    Calls Tryz.prog 104 #[.slice ao l cl, .slice (some ⟨g, 0, none⟩) n n, .int .i64 s] w (PlacePost l fs D s w) := by
  go_enter Tryz.func104, Tryz.ntmps104
  go_wp2_with fail
  go_loop [7] (fun k' => ∃ k : Nat, k ≤ l ∧ k' = .int .i64 k ∧ ∀ j, j < k → D (fs j) s = true) (fun k' => l - (intOf k').toNat)
  case atStart => exact ⟨0, by omega, rfl, fun j hj => absurd hj (by omega)⟩
  case round =>
    obtain ⟨k, hk, rfl, hno⟩ := hrel
    by_cases hlt : k < l
    · obtain rfl := ha (by omega)
      have c0 := hl k hlt
      have hf := hfs k hlt
      obtain ⟨fk, HFK⟩ : ∃ x, Hid (fs k = x) := ⟨_, rfl⟩
      rw [HFK.out] at c0 hf
      have t0 := hm.top.cell hf
      rw [if_pos hf] at t0
      have r0 := (hm.row fk hf).cell hs
      obtain ⟨dv, HDV⟩ : ∃ x, Hid (D fk s = x) := ⟨_, rfl⟩
      rw [HDV.out] at r0
      have HNO : Hid _ := hno
      have HM : Hid _ := hm
      clear hno hm hl
      cases dv
      · go_wp2_with fail
        go_ret
        exact ⟨rfl, .inl ⟨k, hlt, rfl, by rw [HFK.out]; exact HDV.out, HNO.out⟩⟩
      · go_wp2_with fail
        go_round
        case rel =>
          refine ⟨k + 1, by omega, by go_num, fun j hj => ?_⟩
          by_cases e : j = k
          · subst e; rw [HFK.out]; exact HDV.out
          · exact HNO.out j (by omega)
        case measure => simp [intOf]; omega
    · have he : k = l := by omega
      subst he
      have HNO : Hid _ := hno
      clear hno hm hl
      go_wp2_with fail
      go_ret
      exact ⟨rfl, .inr ⟨rfl, HNO.out⟩⟩

end Go.Proofs.YtpngikmcjkjdaaaGreatDoor
