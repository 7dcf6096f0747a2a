import Derived.Test.YtpngikmcjkjdaabAlike
namespace Go.Proofs.Ytpngikmcjkjdaab
open Go.RowKit
set_option linter.unusedVariables false

set_option maxRecDepth 20000 in
set_option maxHeartbeats 1000000 in
theorem find_ok (gw ga ca gn cn go co l0 c0 gh l ch : Nat) (h0 ho : Option Addr) (M : Tab) (f hd : Nat → Nat) (i : Nat) (w : World) (hM : WideAt w gw ga ca gn cn M) (hf : NatsAt w go M.n f)
    (hho : 0 < l → ho = some ⟨gh, 0, none⟩) (hh : NatsAt w gh l hd) (hl : l ≤ 100000000) (hhd : ∀ c, c < l → hd c < M.n)
    (hi : i < M.n) (hn : M.n ≤ 100000000) (hnx : ∀ i c, i < M.n → c < 8 → M.nxt i c < M.n) :
    Calls Try.prog 97 #[.pointer (some ⟨gw, 0, none⟩), .agg #[.slice (some ⟨go, 0, none⟩) M.n co, .slice h0 l0 c0], .slice ho l ch, .int .i64 i] w
      fun e w' => (∃ r : Nat, r ≤ l ∧ (∀ c, c < r → alikeB M f (hd c) i = false) ∧ (r < l → alikeB M f (hd r) i = true) ∧ e = .returned (.int .i64 r)) ∧ Below w.heap.size w w' := by
  have B2 : Below w.heap.size w (w.alloc (.cells #[.slice (some ⟨go, 0, none⟩) M.n co, .slice h0 l0 c0] 149)) :=
    (Below.refl _ _).alloc (Nat.le_refl _) _
  go_enter Try.func97, Try.ntmps97
  go_wp2
  go_loopw [9, 10, 13] (fun _ _ k' wr => ∃ k : Nat, k ≤ l ∧ k' = .int .i64 k ∧ (∀ c, c < k → alikeB M f (hd c) i = false) ∧
        Below (w.heap.size + 1) (w.alloc (.cells #[.slice (some ⟨go, 0, none⟩) M.n co, .slice h0 l0 c0] 149)) wr)
      (fun _ _ k' _ => l - (intOf k').toNat)
  case atStart => exact ⟨0, by omega, rfl, by intro c hc; omega, Below.refl _ _⟩
  case round =>
    obtain ⟨k, hk, rfl, hal, hb⟩ := hrel
    have hbw : Below w.heap.size w wr := B2.trans (hb.mono (by omega))
    have y0 := hb.cell (p := ⟨w.heap.size, 0, none⟩) (by simp)
    have y1 := hb.cell (p := ⟨w.heap.size, 1, none⟩) (by simp)
    simp at y0 y1
    by_cases hlt : k < l
    · obtain rfl := hho (by omega)
      have hk2 := hh.below hbw k hlt
      have hdk := hhd k hlt
      have HC := alike_ok gw ga ca gn cn go co 0 l0 c0 h0 M f (hd k) i wr (hM.below hbw) (hf.below hbw) hdk hi hn hnx
      have HR : Hid (∀ c, c < k → alikeB M f (hd c) i = false) := hal
      have HB : Hid (Below (w.heap.size + 1) (w.alloc (.cells #[.slice (some ⟨go, 0, none⟩) M.n co, .slice h0 l0 c0] 149)) wr) := hb
      have hbs : w.heap.size + 1 ≤ wr.heap.size := by have := hb.size; simp at this; omega
      clear hal hb hh hhd hf hM hnx hho
      cases hv : alikeB M f (hd k) i
      · rw [hv] at HC
        have HV : Hid (alikeB M f (hd k) i = false) := hv
        clear hv
        go_wp2_with (go_at_call 101; refine HC.mono ?_; rintro e w' ⟨rfl, hb'⟩)
        go_roundw
        case rel =>
          refine ⟨k + 1, by omega, by go_num, ?_, HB.out.trans (hb'.mono hbs)⟩
          intro c hc
          by_cases e : c = k
          · subst e; exact HV.out
          · exact HR.out c (by omega)
        case measure => simp [intOf]; omega
      · rw [hv] at HC
        have HV : Hid (alikeB M f (hd k) i = true) := hv
        clear hv
        go_wp2_with (go_at_call 101; refine HC.mono ?_; rintro e w' ⟨rfl, hb'⟩)
        go_ret
        exact ⟨⟨k, by omega, HR.out, fun _ => HV.out, rfl⟩, hbw.trans (hb'.mono (by omega))⟩
    · have e : k = l := by omega
      subst e
      have HR : Hid (∀ c, c < k → alikeB M f (hd c) i = false) := hal
      clear hal hb hh hhd hf hM hnx hho
      go_wp2
      go_ret
      exact ⟨⟨k, by omega, HR.out, fun h => absurd h (by omega), rfl⟩, hbw⟩
end Go.Proofs.Ytpngikmcjkjdaab
