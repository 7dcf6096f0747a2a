import Derived.Deep.AppendLies
import Derived.Deep.DeepCutAuto
import Derived.Deep.RegionHeld3
import Derived.Test.YtpngikmcjkjdaabG1
import Derived.Test.YtpngikmcjkjdaabG11
import Derived.Test.YtpngikmcjkjdaabG12
import Derived.Test.YtpngikmcjkjdaabG4
import Derived.Test.YtpngikmcjkjdaabG8
set_option linter.unusedVariables false
set_option linter.unusedSimpArgs false
namespace Go.Proofs.Ytpngikmcjkjdaab
open Go.RowKit
set_option linter.unusedVariables false
theorem LeastPost.wrap {L : List Nat → Bool} {budget bound : Nat} {w w0 w1 : World} {e : Ending} (h : LeastPost L budget bound w0 e w1) (h0 : Below w.heap.size w w0) (hs : w.heap.size ≤ w0.heap.size) :
    ∃ a0 n0 c0 a1 n1 c1 er, e = .returned (.tuple #[.agg #[.slice a0 n0 c0, .slice a1 n1 c1], .int .i64 er]) ∧ Below w.heap.size w w1 ∧ Below w0.heap.size w0 w1 ∧
      ∀ b, w.heap.size ≤ b → b < w0.heap.size → LeastPost L budget bound w e ((w1.setCell ⟨b, 0, none⟩ (.slice a0 n0 c0)).setCell ⟨b, 1, none⟩ (.slice a1 n1 c1)) := by
  obtain ⟨hb, hc⟩ := h
  have hB := h0.trans (hb.mono hs)
  rcases hc with ⟨R, V, hR, hn, rfl, hT, hF, hFr⟩ | ⟨rfl, hlt, hR⟩
  · exact ⟨_, _, _, _, _, _, _, rfl, hB, hb, fun b h1 h2 => ⟨below_res hB h1 _ _, .inl ⟨R, V, hR, hn, rfl, hT.res hF h2 _ _, hF.mono hs, (hFr.set _ _ _).set _ _ _⟩⟩⟩
  · exact ⟨_, _, _, _, _, _, _, rfl, hB, hb, fun b h1 h2 => ⟨below_res hB h1 _ _, .inr ⟨rfl, hlt, hR⟩⟩⟩
set_option maxRecDepth 20000 in
set_option maxHeartbeats 2000000 in
theorem tjoin_ok (V U : Lay) (M N : Tab) (how budget : Int) (w : World) (hM : M.Ok) (hN : N.Ok) (hV : TabAt w V M) (hU : TabAt w U N) (hh0 : 0 ≤ how) (hh1 : how ≤ 3) (hb0 : 1 ≤ budget) (hb1 : budget ≤ 40) :
    Calls Try.prog 39 #[.agg #[.slice (some ⟨V.ba, V.oa, none⟩) M.n V.ca, .slice (some ⟨V.bn, V.on, none⟩) M.n V.cn], .agg #[.slice (some ⟨U.ba, U.oa, none⟩) N.n U.ca, .slice (some ⟨U.bn, U.on, none⟩) N.n U.cn], .int .i64 how, .int .i64 budget] w
      (LeastPost (fun x => joinB how (M.accepts x) (N.accepts x)) budget.toNat (M.n * N.n) w) := by
  obtain ⟨bu, rfl⟩ := Int.eq_ofNat_of_zero_le (show 0 ≤ budget by omega)
  rw [Int.toNat_natCast]
  obtain ⟨W, hW⟩ : ∃ W, W = ((w.alloc (.cells #[.slice (some ⟨V.ba, V.oa, none⟩) M.n V.ca, .slice (some ⟨V.bn, V.on, none⟩) M.n V.cn] 30)).alloc (.cells #[.slice (some ⟨U.ba, U.oa, none⟩) N.n U.ca, .slice (some ⟨U.bn, U.on, none⟩) N.n U.cn] 30)).alloc
      (.cells #[.slice none 0 0, .slice none 0 0] 30) := ⟨_, rfl⟩
  have BW : Below w.heap.size w W := by
    rw [hW]; exact (((Below.refl _ _).alloc (Nat.le_refl _) _).alloc (by simp) _).alloc (by simp; omega) _
  have hWs : W.heap.size = w.heap.size + 1 + 1 + 1 := by rw [hW]; simp
  have b0 : W.heap[w.heap.size]? = some (.cells #[.slice (some ⟨V.ba, V.oa, none⟩) M.n V.ca, .slice (some ⟨V.bn, V.on, none⟩) M.n V.cn] 30 (0, 0)) := by rw [hW]; exact heap_at_old (heap_at_old (heap_at_new (by simp)))
  have b1 : W.heap[w.heap.size + 1]? = some (.cells #[.slice (some ⟨U.ba, U.oa, none⟩) N.n U.ca, .slice (some ⟨U.bn, U.on, none⟩) N.n U.cn] 30 (0, 0)) := by rw [hW]; exact heap_at_old (heap_at_new (by simp))
  have b2 : W.heap[w.heap.size + 1 + 1]? = some (.cells #[.slice none 0 0, .slice none 0 0] 30 (0, 0)) := by rw [hW]; exact heap_at_new (by simp)
  have hV0 := hV.below BW
  have hU0 := hU.below BW
  obtain ⟨x0, x1, _, _⟩ := cell_two b0
  go_enter Try.func39, Try.ntmps39
  go_wp2_with fail
  rw [← hW]
  clear hW
  refine (valid_ok V M _ hM hV0).mono ?_
  rintro e w1 ⟨rfl, hB1⟩
  have a0 := (hB1.block _ (by omega)).trans b0
  have a1 := (hB1.block _ (by omega)).trans b1
  have a2 := (hB1.block _ (by omega)).trans b2
  have hs1 := hB1.size
  have hV1 := hV0.below hB1
  have hU1 := hU0.below hB1
  have BW1 : Below w.heap.size w w1 := BW.trans (hB1.mono (by omega))
  clear x0 x1 b0 b1 b2 hB1 hV0 hU0 BW
  obtain ⟨x2, x3, _, _⟩ := cell_two a1
  go_wp2_with fail
  refine (valid_ok U N _ hN hU1).mono ?_
  rintro e w2 ⟨rfl, hB2⟩
  have b0 := (hB2.block _ (by omega)).trans a0
  have b1 := (hB2.block _ (by omega)).trans a1
  have b2 := (hB2.block _ (by omega)).trans a2
  have hs2 := hB2.size
  have hV2 := hV1.below hB2
  have hU2 := hU1.below hB2
  have BW2 : Below w.heap.size w w2 := BW1.trans (hB2.mono (by omega))
  clear x2 x3 a0 a1 a2 hB2 hV1 hU1 BW1
  obtain ⟨x0, x1, _, _⟩ := cell_two b0
  obtain ⟨x2, x3, _, _⟩ := cell_two b1
  go_wp2_with fail
  refine (pairUp_ok V U M N how _ hM hN hV2 hU2 hh0 hh1).mono ?_
  rintro e w3 ⟨hB3, ps, gw, ga, ca, gn, cn, hR, rfl, hWd⟩
  have a2 := (hB3.block _ (by omega)).trans b2
  have hs3 := hB3.size
  have BW3 : Below w.heap.size w w3 := BW2.trans (hB3.mono (by omega))
  clear x0 x1 x2 x3 b0 b1 b2 hB3 hV2 hU2 BW2 hV hU
  have hnum := pair_numbered (how := how) hR
  have hlang := fun x hx => pair_accepts hM hN (how := how) hR x hx
  have hbd := hR.bound hN
  have hps : ps.length ≤ 1600 := by have := Nat.mul_le_mul hM.hi hN.hi; omega
  have HC := wleast_ok gw ga ca gn cn (pairTab M N how ps) (fun x => joinB how (M.accepts x) (N.accepts x)) bu w3 hWd hnum (by show ps.length ≤ 100000000; omega) hlang (by omega) (by omega)
  have HBD : Hid (ps.length ≤ M.n * N.n) := hbd
  clear hnum hlang hR hWd hbd
  go_wp2_with fail
  refine HC.mono ?_
  clear HC
  intro e w5 hp
  obtain ⟨a0, n0, c0, a1, n1, c1, er, rfl, hB, hB1, hfin⟩ := (hp.bmono (b' := M.n * N.n) HBD.out).wrap BW3 (by omega)
  have a3 := (hB1.block _ (by omega)).trans a2
  have HF : Hid _ := hfin (w.heap.size + 1 + 1) (by omega) (by omega)
  obtain ⟨q0, q1, p0, p1⟩ := cell_two a3
  clear hp hfin hB1 a2 HBD
  go_wp2_with fail
  obtain ⟨r1, r2, r3⟩ := res_two (u := .slice a0 n0 c0) (v := .slice a1 n1 c1) a3
  refine bodyPost_ret (v := .tuple #[.agg #[.slice a0 n0 c0, .slice a1 n1 c1], .int .i64 er]) (by simp [results, Try.results39, go_sem, r1, r2]) rfl ?_
  exact HF.out
set_option maxRecDepth 20000 in
set_option maxHeartbeats 1000000 in
theorem join_ok (V U : Lay) (M N : Tab) (how budget : Int) (w : World) (hM : M.Ok) (hN : N.Ok) (hV : TabAt w V M) (hU : TabAt w U N) (hh0 : 0 ≤ how) (hh1 : how ≤ 3) (hb0 : 1 ≤ budget) (hb1 : budget ≤ 40) :
    Calls Try.prog 14 #[.agg #[.slice (some ⟨V.ba, V.oa, none⟩) M.n V.ca, .slice (some ⟨V.bn, V.on, none⟩) M.n V.cn], .agg #[.slice (some ⟨U.ba, U.oa, none⟩) N.n U.ca, .slice (some ⟨U.bn, U.on, none⟩) N.n U.cn], .int .i64 how, .int .i64 budget] w
      (LeastPost (fun x => joinB how (M.accepts x) (N.accepts x)) budget.toNat (M.n * N.n) w) := by
  obtain ⟨W, hW⟩ : ∃ W, W = ((w.alloc (.cells #[.slice (some ⟨V.ba, V.oa, none⟩) M.n V.ca, .slice (some ⟨V.bn, V.on, none⟩) M.n V.cn] 30)).alloc (.cells #[.slice (some ⟨U.ba, U.oa, none⟩) N.n U.ca, .slice (some ⟨U.bn, U.on, none⟩) N.n U.cn] 30)).alloc
      (.cells #[.slice none 0 0, .slice none 0 0] 30) := ⟨_, rfl⟩
  have BW : Below w.heap.size w W := by
    rw [hW]; exact (((Below.refl _ _).alloc (Nat.le_refl _) _).alloc (by simp) _).alloc (by simp; omega) _
  have hWs : W.heap.size = w.heap.size + 1 + 1 + 1 := by rw [hW]; simp
  have b2 : W.heap[w.heap.size + 1 + 1]? = some (.cells #[.slice none 0 0, .slice none 0 0] 30 (0, 0)) := by rw [hW]; exact heap_at_new (by simp)
  have HC := tjoin_ok V U M N how budget W hM hN (hV.below BW) (hU.below BW) hh0 hh1 hb0 hb1
  clear hV hU
  go_enter Try.func14, Try.ntmps14
  go_wp2_with fail
  rw [← hW]
  clear hW
  refine HC.mono ?_
  intro e w1 hp
  obtain ⟨a0, n0, c0, a1, n1, c1, er, rfl, hB, hB1, hfin⟩ := hp.wrap BW (by omega)
  have a2 := (hB1.block _ (by omega)).trans b2
  have HF : Hid _ := hfin (w.heap.size + 1 + 1) (by omega) (by omega)
  obtain ⟨q0, q1, p0, p1⟩ := cell_two a2
  clear HC hp hfin hB1 b2
  go_wp2_with fail
  obtain ⟨r1, r2, r3⟩ := res_two (u := .slice a0 n0 c0) (v := .slice a1 n1 c1) a2
  refine bodyPost_ret (v := .tuple #[.agg #[.slice a0 n0 c0, .slice a1 n1 c1], .int .i64 er]) (by simp [results, Try.results14, go_sem, r1, r2]) rfl ?_
  exact HF.out
theorem LeastPost.congr {L L' : List Nat → Bool} {budget bound : Nat} {w w' : World} {e : Ending} (h : LeastPost L budget bound w e w') (hL : ∀ x, Notes x → L x = L' x) : LeastPost L' budget bound w e w' := by
  obtain ⟨hb, hc⟩ := h
  refine ⟨hb, ?_⟩
  rcases hc with ⟨R, V, hR, hn, he, hT, hF, hFr⟩ | ⟨he, hlt, hR⟩
  · exact .inl ⟨R, V, ⟨hR.num, hR.apart, fun x hx => by rw [hR.lang x hx, hL x hx]⟩, hn, he, hT, hF, hFr⟩
  · exact .inr ⟨he, hlt, fun R' hR' => hR R' ⟨hR'.num, hR'.apart, fun x hx => by rw [hR'.lang x hx, hL x hx]⟩⟩
def allTab : Tab := ⟨1, fun _ => true, fun _ _ => 0⟩
theorem allTab_ok : allTab.Ok := ⟨by decide, by decide, fun _ _ _ _ => by show 0 < 1; decide⟩
set_option maxRecDepth 20000 in
set_option maxHeartbeats 1000000 in
theorem everything_ok (w : World) :
    Calls Try.prog 57 #[] w fun e w' => ∃ V : Lay, e = .returned (.agg #[.slice (some ⟨V.ba, V.oa, none⟩) 1 V.ca, .slice (some ⟨V.bn, V.on, none⟩) 1 V.cn]) ∧ TabAt w' V allTab ∧ Below w.heap.size w w' := by
  have mk3 := run_make_row' (P := Try.prog) 22 3 (.int .i64 0) 8 Try.underlying22 Try.info3 rfl .i64 .i64 8 (by omega) (by omega)
  simp only [show ((8 : Nat) : Int) = 8 from rfl] at mk3
  go_enter Try.func57, Try.ntmps57
  go_wp2_with fail
  obtain ⟨W, hW⟩ : ∃ W, W = (((w.alloc (.cells #[.slice (some ⟨w.heap.size + 1, 0, none⟩) 1 1, .slice (some ⟨w.heap.size + 1 + 1 + 1, 0, none⟩) 1 1] 30)).alloc (.cells #[.bool true] 4)).alloc (.cells (madeCells #[.int .i64 0] 8) 3)).alloc (.cells #[.slice (some ⟨w.heap.size + 1 + 1, 0, none⟩) 8 8] 22) := ⟨_, rfl⟩
  have b0 : W.heap[w.heap.size]? = some (.cells #[.slice (some ⟨w.heap.size + 1, 0, none⟩) 1 1, .slice (some ⟨w.heap.size + 1 + 1 + 1, 0, none⟩) 1 1] 30 (0, 0)) := by rw [hW]; exact heap_at_old (heap_at_old (heap_at_old (heap_at_new (by simp))))
  have b1 : W.heap[w.heap.size + 1]? = some (.cells #[.bool true] 4 (0, 0)) := by rw [hW]; exact heap_at_old (heap_at_old (heap_at_new (by simp)))
  have b2 : W.heap[w.heap.size + 1 + 1]? = some (.cells (madeCells #[.int .i64 0] 8) 3 (0, 0)) := by rw [hW]; exact heap_at_old (heap_at_new (by simp))
  have b3 : W.heap[w.heap.size + 1 + 1 + 1]? = some (.cells #[.slice (some ⟨w.heap.size + 1 + 1, 0, none⟩) 8 8] 22 (0, 0)) := by rw [hW]; exact heap_at_new (by simp)
  have BW : Below w.heap.size w W := by
    rw [hW]; exact ((((Below.refl _ _).alloc (Nat.le_refl _) _).alloc (by simp) _).alloc (by simp; omega) _).alloc (by simp; omega) _
  rw [← hW]
  clear hW
  obtain ⟨r1, r2, _, _⟩ := cell_two b0
  refine bodyPost_ret (v := .agg #[.slice (some ⟨w.heap.size + 1, 0, none⟩) 1 1, .slice (some ⟨w.heap.size + 1 + 1 + 1, 0, none⟩) 1 1]) (by simp [results, Try.results57, go_sem, r1, r2]) rfl ?_
  refine ⟨⟨w.heap.size + 1, 0, 1, w.heap.size + 1 + 1 + 1, 0, 1, fun _ => w.heap.size + 1 + 1, fun _ => 0, fun _ => 8⟩, rfl, ⟨fun i hi => ?_, fun i hi => ?_, fun i c hi hc => ?_⟩, BW⟩
  · have : i = 0 := by have : i < 1 := hi; omega
    subst this; exact cell_of_one b1
  · have : i = 0 := by have : i < 1 := hi; omega
    subst this; exact cell_of_one b3
  · have h := (madeCells_rowIs b2).cell hc
    simp only [Nat.zero_add]; exact h
theorem joinB_not (b : Bool) : joinB 2 true b = !b := by simp [joinB]
set_option maxRecDepth 20000 in
set_option maxHeartbeats 1000000 in
theorem tnot_ok (V : Lay) (M : Tab) (w : World) (hM : M.Ok) (hV : TabAt w V M) :
    Calls Try.prog 40 #[.agg #[.slice (some ⟨V.ba, V.oa, none⟩) M.n V.ca, .slice (some ⟨V.bn, V.on, none⟩) M.n V.cn]] w
      (LeastPost (fun x => !M.accepts x) 40 (1 * M.n) w) := by
  obtain ⟨W, hW⟩ : ∃ W, W = (w.alloc (.cells #[.slice (some ⟨V.ba, V.oa, none⟩) M.n V.ca, .slice (some ⟨V.bn, V.on, none⟩) M.n V.cn] 30)).alloc
      (.cells #[.slice none 0 0, .slice none 0 0] 30) := ⟨_, rfl⟩
  have BW : Below w.heap.size w W := by
    rw [hW]; exact ((Below.refl _ _).alloc (Nat.le_refl _) _).alloc (by simp) _
  have hWs : W.heap.size = w.heap.size + 1 + 1 := by rw [hW]; simp
  have b0 : W.heap[w.heap.size]? = some (.cells #[.slice (some ⟨V.ba, V.oa, none⟩) M.n V.ca, .slice (some ⟨V.bn, V.on, none⟩) M.n V.cn] 30 (0, 0)) := by rw [hW]; exact heap_at_old (heap_at_new (by simp))
  have b2 : W.heap[w.heap.size + 1]? = some (.cells #[.slice none 0 0, .slice none 0 0] 30 (0, 0)) := by rw [hW]; exact heap_at_new (by simp)
  have hV0 := hV.below BW
  go_enter Try.func40, Try.ntmps40
  go_wp2_with fail
  rw [← hW]
  clear hW hV
  refine (everything_ok W).mono ?_
  rintro e w1 ⟨U, rfl, hU, hB1⟩
  have hs1 := hB1.size
  obtain ⟨W2, hW2⟩ : ∃ W2, W2 = w1.alloc (.cells #[.slice (some ⟨U.ba, U.oa, none⟩) 1 U.ca, .slice (some ⟨U.bn, U.on, none⟩) 1 U.cn] 30) := ⟨_, rfl⟩
  have hB2 : Below w1.heap.size w1 W2 := by rw [hW2]; exact (Below.refl _ _).alloc (Nat.le_refl _) _
  have hs2 := hB2.size
  have a0 := (hB1.block _ (by omega)).trans b0
  have a2 := (hB2.block _ (by omega)).trans ((hB1.block _ (by omega)).trans b2)
  have BW2 : Below w.heap.size w W2 := (BW.trans (hB1.mono (by omega))).trans (hB2.mono (by omega))
  have HC := tjoin_ok U V allTab M 2 40 W2 allTab_ok hM (hU.below hB2) ((hV0.below hB1).below hB2) (by omega) (by omega) (by omega) (by omega)
  clear hV0 hU hB1 hB2 b0 b2 BW
  obtain ⟨x0, x1, _, _⟩ := cell_two a0
  have hsa : w.heap.size < w1.heap.size := by omega
  have e1 : allTab.n = 1 := rfl
  rw [e1, hW2] at HC
  clear e1
  go_wp2_with fail
  refine HC.mono ?_
  rw [← hW2]
  clear HC hW2
  intro e w3 hp
  have hp' := hp.congr (L' := fun x => !M.accepts x) (fun x _ => joinB_not _)
  obtain ⟨a0', n0, c0, a1, n1, c1, er, rfl, hB, hB3, hfin⟩ := hp'.wrap BW2 (by omega)
  have a3 := (hB3.block _ (by omega)).trans a2
  have HF : Hid _ := hfin (w.heap.size + 1) (by omega) (by omega)
  obtain ⟨q0, q1, p0, p1⟩ := cell_two a3
  clear hp hp' hfin hB3 a2 x0 x1 a0
  go_wp2_with fail
  obtain ⟨r1, r2, r3⟩ := res_two (u := .slice a0' n0 c0) (v := .slice a1 n1 c1) a3
  refine bodyPost_ret (v := .tuple #[.agg #[.slice a0' n0 c0, .slice a1 n1 c1], .int .i64 er]) (by simp [results, Try.results40, go_sem, r1, r2]) rfl ?_
  exact HF.out
set_option maxRecDepth 20000 in
set_option maxHeartbeats 1000000 in
theorem not_ok (V : Lay) (M : Tab) (w : World) (hM : M.Ok) (hV : TabAt w V M) :
    Calls Try.prog 15 #[.agg #[.slice (some ⟨V.ba, V.oa, none⟩) M.n V.ca, .slice (some ⟨V.bn, V.on, none⟩) M.n V.cn]] w
      (LeastPost (fun x => !M.accepts x) 40 (1 * M.n) w) := by
  obtain ⟨W, hW⟩ : ∃ W, W = (w.alloc (.cells #[.slice (some ⟨V.ba, V.oa, none⟩) M.n V.ca, .slice (some ⟨V.bn, V.on, none⟩) M.n V.cn] 30)).alloc
      (.cells #[.slice none 0 0, .slice none 0 0] 30) := ⟨_, rfl⟩
  have BW : Below w.heap.size w W := by
    rw [hW]; exact ((Below.refl _ _).alloc (Nat.le_refl _) _).alloc (by simp) _
  have hWs : W.heap.size = w.heap.size + 1 + 1 := by rw [hW]; simp
  have b2 : W.heap[w.heap.size + 1]? = some (.cells #[.slice none 0 0, .slice none 0 0] 30 (0, 0)) := by rw [hW]; exact heap_at_new (by simp)
  have HC := tnot_ok V M W hM (hV.below BW)
  clear hV
  go_enter Try.func15, Try.ntmps15
  go_wp2_with fail
  rw [← hW]
  clear hW
  refine HC.mono ?_
  intro e w1 hp
  obtain ⟨a0, n0, c0, a1, n1, c1, er, rfl, hB, hB1, hfin⟩ := hp.wrap BW (by omega)
  have a2 := (hB1.block _ (by omega)).trans b2
  have HF : Hid _ := hfin (w.heap.size + 1) (by omega) (by omega)
  obtain ⟨q0, q1, p0, p1⟩ := cell_two a2
  clear HC hp hfin hB1 b2
  go_wp2_with fail
  obtain ⟨r1, r2, r3⟩ := res_two (u := .slice a0 n0 c0) (v := .slice a1 n1 c1) a2
  refine bodyPost_ret (v := .tuple #[.agg #[.slice a0 n0 c0, .slice a1 n1 c1], .int .i64 er]) (by simp [results, Try.results15, go_sem, r1, r2]) rfl ?_
  exact HF.out
end Go.Proofs.Ytpngikmcjkjdaab

namespace Go.Proofs.Ytpngikmcjkjdaab
open Go.RowKit
set_option linter.unusedVariables false
set_option maxRecDepth 20000 in
set_option maxHeartbeats 2000000 in
theorem same_ok (V U : Lay) (M N : Tab) (w : World) (hM : M.Ok) (hN : N.Ok) (hV : TabAt w V M) (hU : TabAt w U N) :
    Calls Try.prog 16 #[.agg #[.slice (some ⟨V.ba, V.oa, none⟩) M.n V.ca, .slice (some ⟨V.bn, V.on, none⟩) M.n V.cn], .agg #[.slice (some ⟨U.ba, U.oa, none⟩) N.n U.ca, .slice (some ⟨U.bn, U.on, none⟩) N.n U.cn]] w
      fun e w' => ∃ sb : Bool, e = .returned (.bool sb) ∧ (sb = true ↔ SameTab M N) ∧ Below w.heap.size w w' := by
  have l1 := hM.lo
  have l2 := hM.hi
  have l3 := hN.lo
  have l4 := hN.hi
  obtain ⟨W, hW⟩ : ∃ W, W = (w.alloc (.cells #[.slice (some ⟨V.ba, V.oa, none⟩) M.n V.ca, .slice (some ⟨V.bn, V.on, none⟩) M.n V.cn] 30)).alloc (.cells #[.slice (some ⟨U.ba, U.oa, none⟩) N.n U.ca, .slice (some ⟨U.bn, U.on, none⟩) N.n U.cn] 30) := ⟨_, rfl⟩
  have BW : Below w.heap.size w W := by
    rw [hW]; exact ((Below.refl _ _).alloc (Nat.le_refl _) _).alloc (by simp) _
  have b0 : W.heap[w.heap.size]? = some (.cells #[.slice (some ⟨V.ba, V.oa, none⟩) M.n V.ca, .slice (some ⟨V.bn, V.on, none⟩) M.n V.cn] 30 (0, 0)) := by rw [hW]; exact heap_at_old (heap_at_new (by simp))
  have b1 : W.heap[w.heap.size + 1]? = some (.cells #[.slice (some ⟨U.ba, U.oa, none⟩) N.n U.ca, .slice (some ⟨U.bn, U.on, none⟩) N.n U.cn] 30 (0, 0)) := by rw [hW]; exact heap_at_new (by simp)
  obtain ⟨x0, x1, _, _⟩ := cell_two b0
  obtain ⟨x2, x3, _, _⟩ := cell_two b1
  have hV0 := hV.below BW
  have hU0 := hU.below BW
  have e0 : ((M.n : Int) == 0) = false := by simp; omega
  by_cases hn : M.n = N.n
  · have ho : N.Ok := hN
    obtain ⟨n, HN⟩ : ∃ n, Hid (M.n = n) := ⟨_, rfl⟩
    have HN2 : Hid (N.n = n) := by unfold Hid; rw [← hn]; exact HN.out
    have hv : ∀ i, i < n → W.cell? ⟨V.ba, V.oa + i, none⟩ = some (.bool (M.acc i)) := fun i hi => hV0.acc i (by rw [HN.out]; exact hi)
    have hvr : ∀ i, i < n → W.cell? ⟨V.bn, V.on + i, none⟩ = some (.slice (some ⟨V.rb i, V.ro i, none⟩) 8 (V.rc i)) := fun i hi => hV0.row i (by rw [HN.out]; exact hi)
    have hvc : ∀ i c, i < n → c < 8 → W.cell? ⟨V.rb i, V.ro i + c, none⟩ = some (.int .i64 (M.nxt i c)) := fun i c hi hc => hV0.cel i c (by rw [HN.out]; exact hi) hc
    have hu : ∀ i, i < n → W.cell? ⟨U.ba, U.oa + i, none⟩ = some (.bool (N.acc i)) := fun i hi => hU0.acc i (by rw [HN2.out]; exact hi)
    have hur : ∀ i, i < n → W.cell? ⟨U.bn, U.on + i, none⟩ = some (.slice (some ⟨U.rb i, U.ro i, none⟩) 8 (U.rc i)) := fun i hi => hU0.row i (by rw [HN2.out]; exact hi)
    have huc : ∀ i c, i < n → c < 8 → W.cell? ⟨U.rb i, U.ro i + c, none⟩ = some (.int .i64 (N.nxt i c)) := fun i c hi hc => hU0.cel i c (by rw [HN2.out]; exact hi) hc
    have HST : Hid (SameTab M N ↔ ((∀ i, i < n → M.acc i = N.acc i) ∧ ∀ i c, i < n → c < 8 → M.nxt i c = N.nxt i c)) := by
      constructor
      · intro h; exact ⟨fun i hi => h.acc i (by rw [HN.out]; exact hi), fun i c hi hc => h.nxt i c (by rw [HN.out]; exact hi) hc⟩
      · intro h; exact ⟨hn, fun i hi => h.1 i (by rw [← HN.out]; exact hi), fun i c hi hc => h.2 i c (by rw [← HN.out]; exact hi) hc⟩
    rw [HN2.out] at x2 x3 l3 l4 hW ⊢
    rw [HN.out] at x0 x1 l1 l2 e0 hW ⊢
    clear hV0 hU0 hV hU ho hN hM hn b0 b1
    go_enter Try.func16, Try.ntmps16
    go_wp2_with fail
    rw [← hW]
    clear hW
    go_loopw [5] (fun i' wr => ∃ i q : Nat, i ≤ n ∧ i' = .int .i64 i ∧ (∀ j, j < i → M.acc j = N.acc j ∧ ∀ c, c < 8 → M.nxt j c = N.nxt j c) ∧ wr = W.drewN q)
      (fun i' _ => n - (intOf i').toNat)
    case atStart => exact ⟨0, 0, by omega, rfl, fun j hj => absurd hj (by omega), rfl⟩
    case round =>
      obtain ⟨i, q, hi, rfl, hsame, rfl⟩ := hrel
      have HS : Hid (∀ j, j < i → M.acc j = N.acc j ∧ ∀ c, c < 8 → M.nxt j c = N.nxt j c) := hsame
      clear hsame
      by_cases hlt : i < n
      · have y0 := hv i hlt
        have y1 := hvr i hlt
        have y2 := hu i hlt
        have y3 := hur i hlt
        have z1 := hvc i
        have z2 := huc i
        clear hv hvr hvc hu hur huc
        by_cases ha : M.acc i = N.acc i
        · rw [ha] at y0
          have HA : Hid (M.acc i = N.acc i) := ha
          have hb : (N.acc i != N.acc i) = false := by simp
          clear ha
          go_wp2_with fail
          go_quiet (fail)
          go_wp2_with fail
          clear y0 y2
          go_loopw [6] (fun c' wr => ∃ c q : Nat, c ≤ 8 ∧ c' = .int .i64 c ∧ (∀ d, d < c → M.nxt i d = N.nxt i d) ∧ wr = W.drewN q)
            (fun c' _ => 8 - (intOf c').toNat)
          case atStart => exact ⟨0, _, by omega, rfl, fun d hd => absurd hd (by omega), by first | rfl | (simp; rfl)⟩
          case round =>
            obtain ⟨c, q2, hc, rfl, hrow, rfl⟩ := hrel
            have HRW : Hid (∀ d, d < c → M.nxt i d = N.nxt i d) := hrow
            clear hrow
            by_cases hl8 : c < 8
            · have c1 := z1 c hlt hl8
              have c2 := z2 c hlt hl8
              clear z1 z2
              by_cases hx : M.nxt i c = N.nxt i c
              · rw [hx] at c1
                have HX : Hid (M.nxt i c = N.nxt i c) := hx
                clear hx
                go_wp2_with fail
                go_quiet (fail)
                go_wp2_with fail
                go_roundw
                case rel =>
                  refine ⟨c + 1, _, by omega, by go_num, ?_, by first | rfl | (simp; rfl)⟩
                  intro d hd
                  by_cases e : d = c
                  · subst e; exact HX.out
                  · exact HRW.out d (by omega)
                case measure => simp [intOf]; omega
              · have hb : (((M.nxt i c : Nat) : Int) == ((N.nxt i c : Nat) : Int)) = false := by simp; omega
                have HX : Hid (¬ M.nxt i c = N.nxt i c) := hx
                clear hx
                go_wp2_with fail
                go_quiet (fail)
                go_wp2_with fail
                go_ret
                exact ⟨false, rfl, ⟨fun h => (by cases h), fun h => absurd ((HST.out.1 h).2 i c hlt hl8) HX.out⟩, by simp only [World.drewN_drewN]; exact below_drewN BW _⟩
            · have he : c = 8 := by omega
              subst he
              clear z1 z2 y1 y3
              go_wp2_with fail
              go_roundw
              case rel =>
                refine ⟨i + 1, _, by omega, by go_num, ?_, rfl⟩
                intro j hj
                by_cases e : j = i
                · subst e; exact ⟨HA.out, HRW.out⟩
                · exact HS.out j (by omega)
              case measure => simp [intOf]; omega
        · have hb : (M.acc i == N.acc i) = false := by simp [ha]
          have HA : Hid (¬ M.acc i = N.acc i) := ha
          clear ha z1 z2
          go_wp2_with fail
          go_quiet (fail)
          go_wp2_with fail
          go_ret
          exact ⟨false, rfl, ⟨fun h => (by cases h), fun h => absurd ((HST.out.1 h).1 i hlt) HA.out⟩, by simp only [World.drewN_drewN]; exact below_drewN BW _⟩
      · have he : i = n := by omega
        subst he
        clear hv hvr hvc hu hur huc
        go_wp2_with fail
        go_ret
        exact ⟨true, rfl, ⟨fun _ => HST.out.2 ⟨fun j hj => (HS.out j hj).1, fun j c hj hc => (HS.out j hj).2 c hc⟩, fun _ => rfl⟩, below_drewN BW _⟩
  · have e1 : ((M.n : Int) == (N.n : Int)) = false := by simp; omega
    clear hV0 hU0 hV hU
    go_enter Try.func16, Try.ntmps16
    go_wp2_with fail
    rw [← hW]
    go_ret
    exact ⟨false, rfl, ⟨fun h => (by cases h), fun h => absurd h.n hn⟩, BW⟩
end Go.Proofs.Ytpngikmcjkjdaab

namespace Go.Proofs.Ytpngikmcjkjdaab
open Go.RowKit
set_option linter.unusedVariables false
set_option linter.unusedSimpArgs false
def pickN (c : Int) (n : Nat) : Nat := ((if c < 0 then -(c + 1) else c) % n).toNat
theorem pickN_lt (c : Int) (n : Nat) (h : 0 < n) : pickN c n < n := by
  unfold pickN
  have h1 := Int.emod_lt_of_pos (if c < 0 then -(c + 1) else c) (b := (n : Int)) (by omega)
  have h2 := Int.emod_nonneg (if c < 0 then -(c + 1) else c) (b := (n : Int)) (by omega)
  omega
theorem neg_tmod_emod (c n : Int) (h : c < 0) : -((c + 1).tmod n) = (-(c + 1)) % n := by
  rw [← Int.neg_tmod, Int.tmod_eq_emod_of_nonneg (by omega)]
set_option maxRecDepth 20000 in
set_option maxHeartbeats 400000 in
theorem pick_any (c : Int) (n : Int) (w : World) (h1 : 1 ≤ n) (h2 : n ≤ 1099511627776) (hc1 : -9223372036854775808 ≤ c) (hc2 : c ≤ 9223372036854775807) :
    Calls Try.prog 17 #[.int .i64 c, .int .i64 n] w fun e w' => e = .returned (.int .i64 (pickN c n.toNat)) ∧ w' = w := by
  have hn : ((n.toNat : Nat) : Int) = n := by omega
  by_cases h : c < 0
  · have he : ((pickN c n.toNat : Nat) : Int) = (-(c + 1)) % n := by
      unfold pickN; rw [if_pos h, hn]; have := Int.emod_nonneg (-(c+1)) (b := n) (by omega); omega
    rw [he]
    clear he hn
    go_enter Try.func17, Try.ntmps17
    go_wp2
    go_ret
    exact ⟨ret_int (neg_tmod_emod c n h), rfl⟩
  · have he : ((pickN c n.toNat : Nat) : Int) = c % n := by
      unfold pickN; rw [if_neg h, hn]; have := Int.emod_nonneg c (b := n) (by omega); omega
    rw [he]
    clear he hn
    go_enter Try.func17, Try.ntmps17
    go_wp2
    go_ret
    exact ⟨rfl, rfl⟩
structure CodeAt (w : World) (ao : Option Addr) (len : Nat) (z : Nat → Int) : Prop where
  ln : len ≤ 9223372036854775807
  cell : ∀ t, t < len → ∃ b o, ao = some ⟨b, o, none⟩ ∧ w.cell? ⟨b, o + t, none⟩ = some (.int .i64 (z t))
  rng : ∀ t, t < len → -9223372036854775808 ≤ z t ∧ z t ≤ 9223372036854775807
theorem CodeAt.below {w w' : World} {ao : Option Addr} {len : Nat} {z : Nat → Int} (h : CodeAt w ao len z) (hb : Below w.heap.size w w') : CodeAt w' ao len z :=
  ⟨h.ln, fun t ht => by obtain ⟨b, o, e, hc⟩ := h.cell t ht; exact ⟨b, o, e, by rw [(bcell hb).1 _ _ (lt_of_cell hc)]; exact hc⟩, h.rng⟩
end Go.Proofs.Ytpngikmcjkjdaab

namespace Go.Proofs.Ytpngikmcjkjdaab
open Go.RowKit
set_option linter.unusedVariables false
def atN (len : Nat) (z : Nat → Int) (i : Nat) : Int := if i < len then z i else 0
theorem atN_rng {w : World} {ao : Option Addr} {len : Nat} {z : Nat → Int} (h : CodeAt w ao len z) (i : Nat) : -9223372036854775808 ≤ atN len z i ∧ atN len z i ≤ 9223372036854775807 := by
  unfold atN; split
  · exact h.rng i ‹_›
  · omega
set_option maxRecDepth 20000 in
set_option maxHeartbeats 400000 in
theorem at_ok (ao : Option Addr) (len cap : Nat) (z : Nat → Int) (i : Int) (w : World) (h : CodeAt w ao len z) (hi : 0 ≤ i) :
    Calls Try.prog 18 #[.slice ao len cap, .int .i64 i] w fun e w' => e = .returned (.int .i64 (atN len z i.toNat)) ∧ w' = w := by
  obtain ⟨k, rfl⟩ := Int.eq_ofNat_of_zero_le hi
  rw [Int.toNat_natCast]
  have hl := h.ln
  by_cases hlt : k < len
  · obtain ⟨b, o, rfl, hc⟩ := h.cell k hlt
    have e : atN len z k = z k := if_pos hlt
    rw [e]
    clear h e
    go_enter Try.func18, Try.ntmps18
    go_wp2
    go_ret
    exact ⟨rfl, rfl⟩
  · have e : atN len z k = 0 := if_neg hlt
    rw [e]
    clear h e
    go_enter Try.func18, Try.ntmps18
    go_wp2
    go_ret
    exact ⟨rfl, rfl⟩
end Go.Proofs.Ytpngikmcjkjdaab

namespace Go.Proofs.Ytpngikmcjkjdaab
open Go.RowKit
set_option linter.unusedVariables false
set_option linter.unusedSimpArgs false
noncomputable def langB (L : List Nat → Prop) (x : List Nat) : Bool := @decide (L x) (Classical.propDecidable _)
theorem langB_iff (L : List Nat → Prop) (x : List Nat) : langB L x = true ↔ L x := by unfold langB; simp
theorem compile_text (s : ByteArray) (b : Nat) (w : World) {L : List Nat → Prop} (h : Tells (txt s) L) (hs : s.size ≤ 40) (hb1 : 1 ≤ b) (hb2 : b ≤ 40) :
    Calls Try.prog 13 #[.string s, .int .i64 (b : Int)] w fun e w' => ∃ n, CompPost (langB L) b n w e w' := by
  obtain ⟨p, h1, h2, rfl⟩ := h
  obtain ⟨t, h3, h4, h5⟩ := text_parse h1
  exact compile_ok s b w h3 h4 h5 h2 hs hb1 hb2
def CompYes (L : List Nat → Bool) (w : World) (e : Ending) (w' : World) : Prop := Below w.heap.size w w' ∧ ∃ (R : Tab) (V : Lay), IsLeast R L ∧ R.n ≤ 40 ∧ e = .returned (.tuple #[.agg #[.slice (some ⟨V.ba, V.oa, none⟩) R.n V.ca, .slice (some ⟨V.bn, V.on, none⟩) R.n V.cn], .int .i64 0, .int .i64 0]) ∧ TabAt w' V R ∧ V.From w.heap.size R.n
theorem CompPost.yes {L : List Nat → Bool} {n : Nat} {w w' : World} {e : Ending} (h : CompPost L 40 n w e w') {M : Tab} (hM : M.Ok) (hL : ∀ x, Notes x → M.accepts x = L x) : CompYes L w e w' := by
  obtain ⟨v, er, rfl, hB, ⟨R, V, hR, hRd, hev, hT, hF, _⟩ | ⟨_, _, hno⟩⟩ := h
  · obtain ⟨rfl, rfl⟩ : v = _ ∧ er = _ := by simpa using hev
    exact ⟨hB, R, V, hR, hRd, rfl, hT, hF⟩
  · obtain ⟨R, h1, h2⟩ := least_of hM hL
    have := hno R h1
    have := hM.hi
    omega
set_option maxRecDepth 20000 in
set_option maxHeartbeats 1000000 in
theorem same_nil (w : World) : Calls Try.prog 16 #[.agg #[.slice none 0 0, .slice none 0 0], .agg #[.slice none 0 0, .slice none 0 0]] w fun e w' => e = .returned (.bool false) ∧ Below w.heap.size w w' := by
  obtain ⟨W, hW⟩ : ∃ W, W = (w.alloc (.cells #[.slice none 0 0, .slice none 0 0] 30)).alloc (.cells #[.slice none 0 0, .slice none 0 0] 30) := ⟨_, rfl⟩
  have BW : Below w.heap.size w W := by rw [hW]; exact ((Below.refl _ _).alloc (Nat.le_refl _) _).alloc (by simp) _
  have b0 : W.heap[w.heap.size]? = some (.cells #[.slice none 0 0, .slice none 0 0] 30 (0, 0)) := by rw [hW]; exact heap_at_old (heap_at_new rfl)
  have b1 : W.heap[w.heap.size + 1]? = some (.cells #[.slice none 0 0, .slice none 0 0] 30 (0, 0)) := by rw [hW]; exact heap_at_new (by simp)
  obtain ⟨q0, q1, _, _⟩ := cell_two b0
  obtain ⟨p0, p1, _, _⟩ := cell_two b1
  go_enter Try.func16, Try.ntmps16
  go_upto_region 1 with fail
  rw [← hW]
  clear hW
  go_wp2_with fail
  go_ret
  exact ⟨rfl, BW⟩
end Go.Proofs.Ytpngikmcjkjdaab

namespace Go.Proofs.Ytpngikmcjkjdaab
open Go.RowKit
set_option linter.unusedVariables false
set_option linter.unusedSimpArgs false
theorem txt_app (a b : ByteArray) : txt (a ++ b) = txt a ++ txt b := by
  unfold txt
  rw [ByteArray.data_append, Array.toList_append, List.map_append]
theorem conv_list (l : List UInt8) (cs : Array Value) (hc : cs.toList = l.map fun b => .int .u8 (b.toNat : Int)) (u : World) : Sem.run Try.prog (convert 70 9 (.slice (some ⟨u.heap.size, 0, none⟩) l.length l.length)) (u.alloc (.cells cs 5)) =
    .ok (.string ⟨l.toArray⟩) (u.alloc (.cells cs 5)) := by
  have h1 := run_convert_bytes_back (P := Try.prog) (u.alloc (.cells cs 5)) 70 9 5 ⟨u.heap.size, 0, none⟩ l.length l Try.underlying70 Try.underlying5 Try.underlying9 (by
    intro j hj
    have h2 : (u.alloc (.cells cs 5)).heap[u.heap.size]? = some (.cells cs 5 (0, 0)) := heap_at_new rfl
    have h3 : cs[j]? = some (.int .u8 ((l[j]'hj).toNat : Int)) := by
      rw [← Array.getElem?_toList, hc, List.getElem?_map, List.getElem?_eq_getElem hj]; rfl
    have e : (⟨u.heap.size, 0, none⟩ : Addr).add j = ⟨u.heap.size, j, none⟩ := by cases j <;> simp [Addr.add]
    rw [e]
    unfold World.cell?
    simp only [h2]
    simpa using h3)
  exact h1
theorem noteB_int (a : Nat) (h : a < 8) : (97 + (a : Int)) = ((noteB a).toNat : Int) := by rw [toNat_note a h]; omega
def KPartPost (w : World) (e : Ending) (w' : World) : Prop := ∃ (s : ByteArray) (i : Itm), e = .returned (.string s) ∧ Atom0T i.la i.q ∧ i.m.ok ∧ txt s = i.text ∧ i.pat.size = 1 ∧ s.size ≤ 5 ∧ Below w.heap.size w w'
theorem txt_lit (l : List UInt8) : txt ⟨l.toArray⟩ = l.map UInt8.toNat := by unfold txt; simp
section
variable {x y : Nat} {w w' : World}
theorem part_dot (hb : Below w.heap.size w w') : KPartPost w (.returned (.string ⟨#[46]⟩)) w' :=
  ⟨_, ⟨[46], .one (fun _ => true), .none⟩, rfl, .inr (.inl ⟨rfl, rfl⟩), trivial, rfl, rfl, by decide, hb⟩
theorem part_span (hx : x < 8) (hy : y < 8) (h : x ≤ y) (hb : Below w.heap.size w w') : KPartPost w (.returned (.string (⟨#[91]⟩ ++ ⟨#[noteB x, 45, noteB y]⟩ ++ ⟨#[93]⟩))) w' := by
  refine ⟨_, ⟨91 :: [97 + x, 45, 97 + y] ++ [93], .one (setN (fun _ => false) [⟨x, y, true⟩]), .none⟩, rfl, .inr (.inr ⟨[⟨x, y, true⟩], by simp, ?_, .inl ⟨?_, rfl⟩⟩), trivial, ?_, rfl, ?_, hb⟩
  · intro z hz; simp at hz; subst hz; exact ⟨hx, hy, fun h => by simp at h, h⟩
  · simp [Prt.text]
  · rw [txt_app, txt_app, txt_lit [91], txt_lit [noteB x, 45, noteB y], txt_lit [93]]
    simp [Itm.text, Mk.text, toNat_note x hx, toNat_note y hy]
  · simp only [ByteArray.size_append]; show 1 + 3 + 1 ≤ 5; decide
theorem part_set (hx : x < 8) (hy : y < 8) (hb : Below w.heap.size w w') : KPartPost w (.returned (.string (⟨#[91, 94]⟩ ++ ⟨#[noteB x, noteB y]⟩ ++ ⟨#[93]⟩))) w' := by
  refine ⟨_, ⟨91 :: 94 :: [97 + x, 97 + y] ++ [93], .one (fun c => !setN (fun _ => false) [⟨x, x, false⟩, ⟨y, y, false⟩] c), .none⟩, rfl, .inr (.inr ⟨[⟨x, x, false⟩, ⟨y, y, false⟩], by simp, ?_, .inr ⟨?_, rfl⟩⟩), trivial, ?_, rfl, ?_, hb⟩
  · intro z hz
    simp at hz
    rcases hz with rfl | rfl
    · exact ⟨hx, hx, fun _ => rfl, Nat.le_refl _⟩
    · exact ⟨hy, hy, fun _ => rfl, Nat.le_refl _⟩
  · simp [Prt.text]
  · rw [txt_app, txt_app, txt_lit [91, 94], txt_lit [noteB x, noteB y], txt_lit [93]]
    simp [Itm.text, Mk.text, toNat_note x hx, toNat_note y hy]
  · simp only [ByteArray.size_append]; show 2 + 2 + 1 ≤ 5; decide
theorem part_opt (hx : x < 8) (hb : Below w.heap.size w w') : KPartPost w (.returned (.string (⟨#[noteB x]⟩ ++ ⟨#[63]⟩))) w' := by
  refine ⟨_, ⟨[97 + x], .one (fun z => decide (z = x)), .opt⟩, rfl, .inl ⟨x, hx, rfl, rfl⟩, trivial, ?_, rfl, ?_, hb⟩
  · rw [txt_app, txt_lit [noteB x], txt_lit [63]]
    simp [Itm.text, Mk.text, toNat_note x hx]
  · simp only [ByteArray.size_append]; show 1 + 1 ≤ 5; decide
theorem part_star (hx : x < 8) (hb : Below w.heap.size w w') : KPartPost w (.returned (.string (⟨#[noteB x]⟩ ++ ⟨#[42]⟩))) w' := by
  refine ⟨_, ⟨[97 + x], .one (fun z => decide (z = x)), .star⟩, rfl, .inl ⟨x, hx, rfl, rfl⟩, trivial, ?_, rfl, ?_, hb⟩
  · rw [txt_app, txt_lit [noteB x], txt_lit [42]]
    simp [Itm.text, Mk.text, toNat_note x hx]
  · simp only [ByteArray.size_append]; show 1 + 1 ≤ 5; decide
theorem part_note (hx : x < 8) (hb : Below w.heap.size w w') : KPartPost w (.returned (.string ⟨#[noteB x]⟩)) w' := by
  refine ⟨_, ⟨[97 + x], .one (fun z => decide (z = x)), .none⟩, rfl, .inl ⟨x, hx, rfl, rfl⟩, trivial, ?_, rfl, ?_, hb⟩
  · rw [txt_lit [noteB x]]
    simp [Itm.text, Mk.text, toNat_note x hx]
  · show 1 ≤ 5; decide
end
set_option maxRecDepth 20000 in
set_option maxHeartbeats 1000000 in
theorem kpart_ok (v : Int) (w : World) (h0 : 0 ≤ v) (h1 : v < 1099511627776) :
    Calls Try.prog 37 #[.int .i64 v] w (KPartPost w) := by
  obtain ⟨a, ha, ha8⟩ : ∃ a : Nat, v / 8 % 8 = (a : Int) ∧ a < 8 := ⟨(v / 8 % 8).toNat, by omega, by omega⟩
  obtain ⟨b, hb, hb8⟩ : ∃ b : Nat, v / 64 % 8 = (b : Int) ∧ b < 8 := ⟨(v / 64 % 8).toNat, by omega, by omega⟩
  obtain ⟨k, hk, hk8⟩ : ∃ k : Nat, v % 8 = (k : Int) ∧ k < 8 := ⟨(v % 8).toNat, by omega, by omega⟩
  have HV : Hid (v / 8 % 8 = (a : Int) ∧ v / 64 % 8 = (b : Int)) := ⟨ha, hb⟩
  clear ha hb
  have main : ∀ x y : Nat, x < 8 → y < 8 → x ≤ y → ((x = a ∧ y = b ∧ ¬ b < a) ∨ (x = b ∧ y = a ∧ b < a)) → Calls Try.prog 37 #[.int .i64 v] w (KPartPost w) := by
    intro x y hx hy hxy hor
    have c1 := fun u => conv_list [noteB x] #[.int .u8 (97 + (x : Int))] (by simp [noteB_int x hx]) u
    have c1y := fun u => conv_list [noteB y] #[.int .u8 (97 + (y : Int))] (by simp [noteB_int y hy]) u
    have c2 := fun u => conv_list [noteB x, noteB y] #[.int .u8 (97 + (x : Int)), .int .u8 (97 + (y : Int))] (by simp [noteB_int x hx, noteB_int y hy]) u
    have c3 := fun u => conv_list [noteB x, 45, noteB y] #[.int .u8 (97 + (x : Int)), .int .u8 45, .int .u8 (97 + (y : Int))] (by simp [noteB_int x hx, noteB_int y hy]) u
    simp only [List.length_cons, List.length_nil, Nat.zero_add, Nat.reduceAdd] at c1 c1y c2 c3
    rcases hor with ⟨rfl, rfl, hlt⟩ | ⟨rfl, rfl, hlt⟩
    all_goals
      go_enter Try.func37, Try.ntmps37
      go_upto_region 3 with fail
      rw [HV.out.1, HV.out.2]
      clear HV
      go_upto_region 6 with fail
      rw [hk]
      clear hk h0 h1
    all_goals
      rcases (show k = 0 ∨ k = 1 ∨ k = 2 ∨ k = 3 ∨ k = 4 ∨ k = 5 ∨ k = 6 ∨ k = 7 by omega) with rfl | rfl | rfl | rfl | rfl | rfl | rfl | rfl
    · clear c1 c1y c2 c3
      go_wp2_with fail
      go_ret
      exact part_dot (Below.refl _ _)
    · have c := c3 w
      clear c1 c1y c2 c3
      go_wp2_with fail
      go_ret
      exact part_span hx hy hxy ((Below.refl _ _).alloc (Nat.le_refl _) _)
    · have c := c2 w
      clear c1 c1y c2 c3
      go_wp2_with fail
      go_ret
      exact part_set hx hy ((Below.refl _ _).alloc (Nat.le_refl _) _)
    · have c := c1 w
      clear c1 c1y c2 c3
      go_wp2_with fail
      go_ret
      exact part_opt hx ((Below.refl _ _).alloc (Nat.le_refl _) _)
    · have c := c1y w
      clear c1 c1y c2 c3
      go_wp2_with fail
      go_ret
      exact part_star hy ((Below.refl _ _).alloc (Nat.le_refl _) _)
    · have c := c1 w
      clear c1 c1y c2 c3
      go_wp2_with fail
      go_ret
      exact part_note hx ((Below.refl _ _).alloc (Nat.le_refl _) _)
    · have c := c1 w
      clear c1 c1y c2 c3
      go_wp2_with fail
      go_ret
      exact part_note hx ((Below.refl _ _).alloc (Nat.le_refl _) _)
    · have c := c1 w
      clear c1 c1y c2 c3
      go_wp2_with fail
      go_ret
      exact part_note hx ((Below.refl _ _).alloc (Nat.le_refl _) _)
    · clear c1 c1y c2 c3
      go_wp2_with fail
      go_ret
      exact part_dot (Below.refl _ _)
    · have c := c3 w
      clear c1 c1y c2 c3
      go_wp2_with fail
      go_ret
      exact part_span hx hy hxy ((Below.refl _ _).alloc (Nat.le_refl _) _)
    · have c := c2 w
      clear c1 c1y c2 c3
      go_wp2_with fail
      go_ret
      exact part_set hx hy ((Below.refl _ _).alloc (Nat.le_refl _) _)
    · have c := c1 w
      clear c1 c1y c2 c3
      go_wp2_with fail
      go_ret
      exact part_opt hx ((Below.refl _ _).alloc (Nat.le_refl _) _)
    · have c := c1y w
      clear c1 c1y c2 c3
      go_wp2_with fail
      go_ret
      exact part_star hy ((Below.refl _ _).alloc (Nat.le_refl _) _)
    · have c := c1 w
      clear c1 c1y c2 c3
      go_wp2_with fail
      go_ret
      exact part_note hx ((Below.refl _ _).alloc (Nat.le_refl _) _)
    · have c := c1 w
      clear c1 c1y c2 c3
      go_wp2_with fail
      go_ret
      exact part_note hx ((Below.refl _ _).alloc (Nat.le_refl _) _)
    · have c := c1 w
      clear c1 c1y c2 c3
      go_wp2_with fail
      go_ret
      exact part_note hx ((Below.refl _ _).alloc (Nat.le_refl _) _)
  by_cases hlt : b < a
  · exact main b a hb8 ha8 (by omega) (.inr ⟨rfl, rfl, hlt⟩)
  · exact main a b ha8 hb8 (by omega) (.inl ⟨rfl, rfl, hlt⟩)
end Go.Proofs.Ytpngikmcjkjdaab

namespace Go.Proofs.Ytpngikmcjkjdaab
set_option linter.unusedVariables false
def splitF : List Nat → Int → List Nat → List (List Nat)
  | [], _, cur => [cur]
  | c :: l, n, cur => if c = 40 then splitF l (n + 1) (cur ++ [c]) else if c = 41 then splitF l (n - 1) (cur ++ [c]) else if c = 124 ∧ n = 0 then cur :: splitF l n [] else splitF l n (cur ++ [c])
def closF : List Nat → Int → Nat → Nat
  | [], _, k => k
  | c :: l, n, k => if c = 40 then closF l (n + 1) (k + 1) else if c = 41 then (if n - 1 = 0 then k else closF l (n - 1) (k + 1)) else closF l n (k + 1)
def Flat (m : Int) (l : List Nat) : Prop := ∀ n cur rest, m ≤ n → splitF (l ++ rest) n cur = splitF rest n (cur ++ l)
def Skip (l : List Nat) : Prop := ∀ n k rest, 1 ≤ n → closF (l ++ rest) n k = closF rest n (k + l.length)
theorem Flat.nil (m : Int) : Flat m [] := fun n cur rest _ => by simp
theorem Flat.app {m : Int} {l l' : List Nat} (h : Flat m l) (h' : Flat m l') : Flat m (l ++ l') := fun n cur rest hn => by rw [List.append_assoc, h n cur _ hn, h' n _ rest hn, List.append_assoc]
theorem Flat.one {c : Nat} (m : Int) (h1 : c ≠ 40) (h2 : c ≠ 41) (h3 : c ≠ 124) : Flat m [c] := fun n cur rest _ => by
  simp only [List.cons_append, List.nil_append, splitF]
  rw [if_neg h1, if_neg h2, if_neg (fun h => h3 h.1)]
theorem Flat.bar : Flat 1 [124] := fun n cur rest hn => by
  simp only [List.cons_append, List.nil_append, splitF]
  rw [if_neg (by omega), if_neg (by omega), if_neg (fun h => by omega)]
theorem Flat.mono {m m' : Int} {l : List Nat} (h : Flat m l) (hm : m ≤ m') : Flat m' l := fun n cur rest hn => h n cur rest (by omega)
theorem Flat.par {l : List Nat} (h : Flat 1 l) : Flat 0 (40 :: l ++ [41]) := fun n cur rest hn => by
  rw [show 40 :: l ++ [41] ++ rest = 40 :: (l ++ (41 :: rest)) by simp]
  rw [show splitF (40 :: (l ++ (41 :: rest))) n cur = splitF (l ++ (41 :: rest)) (n + 1) (cur ++ [40]) by simp [splitF]]
  rw [h (n + 1) _ _ (by omega)]
  rw [show splitF (41 :: rest) (n + 1) (cur ++ [40] ++ l) = splitF rest (n + 1 - 1) (cur ++ [40] ++ l ++ [41]) by simp [splitF]]
  rw [show n + 1 - 1 = n by omega]
  congr 1; simp
theorem Skip.nil : Skip [] := fun n k rest _ => by simp
theorem Skip.app {l l' : List Nat} (h : Skip l) (h' : Skip l') : Skip (l ++ l') := fun n k rest hn => by rw [List.append_assoc, h n k _ hn, h' n _ rest hn, List.length_append, Nat.add_assoc]
theorem Skip.one {c : Nat} (h1 : c ≠ 40) (h2 : c ≠ 41) : Skip [c] := fun n k rest _ => by
  simp only [List.cons_append, List.nil_append, closF]
  rw [if_neg h1, if_neg h2]; simp
theorem Skip.par {l : List Nat} (h : Skip l) : Skip (40 :: l ++ [41]) := fun n k rest hn => by
  rw [show 40 :: l ++ [41] ++ rest = 40 :: (l ++ (41 :: rest)) by simp]
  rw [show closF (40 :: (l ++ (41 :: rest))) n k = closF (l ++ (41 :: rest)) (n + 1) (k + 1) by simp [closF]]
  rw [h (n + 1) _ _ (by omega)]
  rw [show closF (41 :: rest) (n + 1) (k + 1 + l.length) = closF rest (n + 1 - 1) (k + 1 + l.length + 1) by
    simp only [closF]; rw [if_neg (by omega), if_pos trivial, if_neg (by omega)]]
  rw [show n + 1 - 1 = n by omega]
  congr 1; simp; omega
theorem AtomT.head {k : Nat} {l : List Nat} {p : Pat} (h : AtomT k l p) : ∃ c l', l = c :: l' ∧ c ≠ 42 ∧ c ≠ 43 ∧ c ≠ 63 ∧ c ≠ 123 := by
  have h0 : ∀ {l : List Nat} {p : Pat}, Atom0T l p → ∃ c l', l = c :: l' ∧ c ≠ 42 ∧ c ≠ 43 ∧ c ≠ 63 ∧ c ≠ 123 := by
    intro l p h
    rcases h with ⟨c, hc, rfl, _⟩ | ⟨rfl, _⟩ | ⟨ps, _, h1, ⟨rfl, _⟩ | ⟨rfl, _⟩⟩
    · exact ⟨_, _, rfl, by omega, by omega, by omega, by omega⟩
    · exact ⟨_, _, rfl, by omega, by omega, by omega, by omega⟩
    · exact ⟨_, _, rfl, by omega, by omega, by omega, by omega⟩
    · exact ⟨_, _, rfl, by omega, by omega, by omega, by omega⟩
  cases k with
  | zero => exact h0 h
  | succ k =>
    rcases h with h | ⟨l', rfl, _⟩
    · exact h0 h
    · exact ⟨_, _, rfl, by omega, by omega, by omega, by omega⟩
def Mk.lo : Mk → Nat
  | .none => 1
  | .star => 0
  | .plus => 1
  | .opt => 0
  | .just n => n
  | .more n => n
  | .span n _ => n
def Mk.hi : Mk → Int
  | .none => 1
  | .star => -1
  | .plus => -1
  | .opt => 1
  | .just n => n
  | .more _ => -1
  | .span _ m => m
theorem chainL_size (p : Pat) (its : List Itm) : (chainL p its).size = p.size + (its.map fun i => i.pat.size).sum := by
  induction its generalizing p with
  | nil => simp [chainL]
  | cons i its ih =>
    show (chainL (.chain p i.pat) its).size = _
    rw [ih]
    simp only [Pat.size, List.map_cons, List.sum_cons]; omega
theorem altL_size (p : Pat) (xs : List (List Nat × Pat)) : (altL p xs).size = p.size + (xs.map fun y => y.2.size).sum := by
  induction xs generalizing p with
  | nil => simp [altL]
  | cons y xs ih =>
    show (altL (.alt p y.2) xs).size = _
    rw [ih]
    simp only [Pat.size, List.map_cons, List.sum_cons]; omega
end Go.Proofs.Ytpngikmcjkjdaab

namespace Go.Proofs.Ytpngikmcjkjdaab
open Go.RowKit
set_option linter.unusedVariables false
set_option linter.unusedSimpArgs false
theorem PatT.snoc {A : List Nat → Pat → Prop} {l : List Nat} {p : Pat} (h : PatT A l p) (i : Itm) (hi : A i.la i.q ∧ i.m.ok) : ∃ p', PatT A (l ++ i.text) p' ∧ p'.size = p.size + i.pat.size := by
  obtain ⟨x, xs, h1, h2, rfl, rfl⟩ := h
  have ext : ∀ its : List Itm, (∀ j ∈ its, A j.la j.q ∧ j.m.ok) → ∀ j ∈ its ++ [i], A j.la j.q ∧ j.m.ok := by
    intro its hok j hj
    rcases List.mem_append.1 hj with h | h
    · exact hok j h
    · simp at h; subst h; exact hi
  rcases List.eq_nil_or_concat xs with rfl | ⟨ys, y, rfl⟩
  · obtain ⟨its, hok, e1, e2⟩ := h1
    refine ⟨chainL .none (its ++ [i]), ⟨(x.1 ++ i.text, chainL .none (its ++ [i])), [], ⟨its ++ [i], ext its hok, by rw [e1]; simp, rfl⟩, by simp, by simp [barsL], rfl⟩, ?_⟩
    show _ = x.2.size + i.pat.size
    rw [e2, chainL_size, chainL_size]
    simp
    omega
  · obtain ⟨its, hok, e1, e2⟩ := h2 y (by simp)
    refine ⟨altL x.2 (ys ++ [(y.1 ++ i.text, chainL .none (its ++ [i]))]), ⟨x, ys ++ [(y.1 ++ i.text, chainL .none (its ++ [i]))], h1, ?_, by simp [barsL], rfl⟩, ?_⟩
    · intro z hz
      rcases List.mem_append.1 hz with h | h
      · exact h2 z (by simp [h])
      · simp at h; subst h
        exact ⟨its ++ [i], ext its hok, by show y.1 ++ i.text = _; rw [e1]; simp, rfl⟩
    · rw [altL_size, altL_size]
      simp only [List.map_append, List.map_cons, List.map_nil, List.sum_append, List.sum_cons, List.sum_nil, List.concat_eq_append]
      rw [e2, chainL_size, chainL_size]
      simp only [List.map_append, List.map_cons, List.map_nil, List.sum_append, List.sum_cons, List.sum_nil]
      omega
theorem small_bar {s sp : ByteArray} {q : Pat} {it : Itm} {n : Nat} (h : PatT Atom0T (txt s) q ∧ q.size ≤ n) (hi : (Atom0T it.la it.q ∧ it.m.ok) ∧ txt sp = it.text ∧ it.pat.size = 1) : ∃ q', PatT Atom0T (txt (s ++ (⟨#[124]⟩ ++ sp))) q' ∧ q'.size ≤ n + 1 := by
  obtain ⟨⟨h1, h2⟩, h3, h4⟩ := hi
  refine ⟨.alt q (.chain .none (it.m.app it.q)), ?_, ?_⟩
  · rw [txt_app, txt_app, h3, show txt ⟨#[124]⟩ = [124] from rfl]
    exact PatT.bar h.1 (SeqT.one it.m h1 h2)
  · show q.size + (0 + it.pat.size) ≤ n + 1
    have := h.2
    omega
theorem small_item {s sp : ByteArray} {q : Pat} {it : Itm} {n : Nat} (h : PatT Atom0T (txt s) q ∧ q.size ≤ n) (hi : (Atom0T it.la it.q ∧ it.m.ok) ∧ txt sp = it.text ∧ it.pat.size = 1) : ∃ q', PatT Atom0T (txt (s ++ sp)) q' ∧ q'.size ≤ n + 1 := by
  obtain ⟨h1, h3, h4⟩ := hi
  obtain ⟨q', e1, e2⟩ := h.1.snoc it h1
  refine ⟨q', ?_, ?_⟩
  · rw [txt_app, h3]; exact e1
  · have := h.2
    omega
def SmallPost (w : World) (e : Ending) (w' : World) : Prop := ∃ (s : ByteArray) (q : Pat), e = .returned (.string s) ∧ PatT Atom0T (txt s) q ∧ q.size ≤ 3 ∧ s.size ≤ 10 ∧ Below w.heap.size w w'
set_option maxRecDepth 20000 in
set_option maxHeartbeats 2000000 in
theorem small_ok (ao : Option Addr) (len cap : Nat) (z : Nat → Int) (w : World) (h : CodeAt w ao len z) :
    Calls Try.prog 10 #[.slice ao len cap] w (SmallPost w) := by
  have hln := h.ln
  have r0 := atN_rng h 0
  obtain ⟨z0, HZ0⟩ : ∃ x, Hid (atN len z 0 = x) := ⟨_, rfl⟩
  have HA := at_ok ao len cap z 0 w h (by omega)
  rw [show (0 : Int).toNat = 0 from rfl, HZ0.out] at HA
  rw [HZ0.out] at r0
  obtain ⟨n1, HN1⟩ : ∃ x, Hid (pickN z0 3 = x) := ⟨_, rfl⟩
  have hn1 : n1 < 3 := by rw [← HN1.out]; exact pickN_lt _ _ (by omega)
  have HP := pick_any z0 3 w (by omega) (by omega) r0.1 r0.2
  rw [show (3 : Int).toNat = 3 from rfl, HN1.out] at HP
  go_enter Try.func10, Try.ntmps10
  go_wp2_with fail
  refine HA.mono ?_
  clear HA
  rintro e w' ⟨rfl, hw'⟩
  obtain rfl : w = w' := hw'.symm
  go_wp2_with fail
  refine HP.mono ?_
  clear HP
  rintro e w' ⟨rfl, hw'⟩
  obtain rfl : w = w' := hw'.symm
  have HH : Hid (CodeAt w ao len z) := h
  clear h HZ0 HN1 r0
  go_wp2_with fail
  go_loopw [4, 5] (fun sv i' wr => ∃ (i : Nat) (s : ByteArray) (q : Pat), i ≤ 1 + n1 ∧ i' = .int .i64 i ∧ sv = .string s ∧ Hid (PatT Atom0T (txt s) q ∧ q.size ≤ i) ∧ s.size ≤ 10 ∧ Below w.heap.size w wr)
    (fun _ i' _ => 3 - (intOf i').toNat)
  case atStart => exact ⟨0, _, .none, by omega, rfl, rfl, ⟨SeqT.nil.pat, Nat.le_refl _⟩, by show 0 ≤ 10; omega, Below.refl _ _⟩
  case round =>
    obtain ⟨i, s, q, hi, rfl, rfl, hq, hsz, hb⟩ := hrel
    by_cases hlt : i < 1 + n1
    · have hc := HH.out.below hb
      have r1 := atN_rng hc (1 + i)
      obtain ⟨z1, HZ1⟩ : ∃ x, Hid (atN len z (1 + i) = x) := ⟨_, rfl⟩
      rw [HZ1.out] at r1
      have HA := at_ok ao len cap z (1 + (i : Int)) wr hc (by omega)
      rw [show (1 + (i : Int)).toNat = 1 + i by omega, HZ1.out] at HA
      obtain ⟨v, HV⟩ : ∃ x, Hid (pickN z1 1099511627776 = x) := ⟨_, rfl⟩
      have hv : v < 1099511627776 := by rw [← HV.out]; exact pickN_lt _ _ (by omega)
      have HP := pick_any z1 1099511627776 wr (by omega) (by omega) r1.1 r1.2
      rw [show (1099511627776 : Int).toNat = 1099511627776 from rfl, HV.out] at HP
      have HB : Hid (Below w.heap.size w wr) := hb
      have hbs := hb.size
      clear hc hb r1 HZ1 HV
      go_wp2_with fail
      refine HA.mono ?_
      clear HA
      rintro e w' ⟨rfl, hw'⟩
      obtain rfl : wr = w' := hw'.symm
      go_wp2_with fail
      refine HP.mono ?_
      clear HP
      rintro e w' ⟨rfl, hw'⟩
      obtain rfl : wr = w' := hw'.symm
      have HC := kpart_ok (v : Int) wr (by omega) (by omega)
      go_wp2_with fail
      refine HC.mono ?_
      clear HC
      rintro e w1 ⟨sp, it, rfl, hat, hmo, htx, hpz, hs5, hb1⟩
      have HI : Hid ((Atom0T it.la it.q ∧ it.m.ok) ∧ txt sp = it.text ∧ it.pat.size = 1) := ⟨⟨hat, hmo⟩, htx, hpz⟩
      have HB1 : Hid (Below w.heap.size w w1) := HB.out.trans (hb1.mono (by omega))
      clear hat hmo htx hpz hb1 HB
      by_cases hi0 : 0 < i
      · by_cases hv3 : (v : Int) / 512 % 3 = 0
        · by_cases hl : s.size + (1 + sp.size) ≤ 10
          · go_wp2_with fail
            obtain ⟨q', hq'⟩ := small_bar hq.out HI.out
            refine ⟨⟨i + 1, _, q', by omega, by go_num, rfl, hq', ?_, HB1.out⟩, by simp [intOf]; omega⟩
            rw [ByteArray.size_append, ByteArray.size_append]
            show s.size + (1 + sp.size) ≤ 10
            omega
          · go_wp2_with fail
            refine ⟨⟨i + 1, s, q, by omega, by go_num, rfl, ⟨hq.out.1, by have := hq.out.2; omega⟩, hsz, HB1.out⟩, by simp [intOf]; omega⟩
        · by_cases hl : s.size + sp.size ≤ 10
          · go_wp2_with fail
            obtain ⟨q', hq'⟩ := small_item hq.out HI.out
            refine ⟨⟨i + 1, _, q', by omega, by go_num, rfl, hq', ?_, HB1.out⟩, by simp [intOf]; omega⟩
            rw [ByteArray.size_append]
            omega
          · go_wp2_with fail
            refine ⟨⟨i + 1, s, q, by omega, by go_num, rfl, ⟨hq.out.1, by have := hq.out.2; omega⟩, hsz, HB1.out⟩, by simp [intOf]; omega⟩
      · have hi1 : i = 0 := by omega
        subst hi1
        by_cases hl : s.size + sp.size ≤ 10
        · go_wp2_with fail
          obtain ⟨q', hq'⟩ := small_item hq.out HI.out
          refine ⟨⟨0 + 1, _, q', by omega, by go_num, rfl, hq', ?_, HB1.out⟩, by simp [intOf]⟩
          rw [ByteArray.size_append]
          omega
        · go_wp2_with fail
          refine ⟨⟨0 + 1, s, q, by omega, by go_num, rfl, ⟨hq.out.1, by have := hq.out.2; omega⟩, hsz, HB1.out⟩, by simp [intOf]⟩
    · clear HH
      go_wp2_with fail
      go_ret
      exact ⟨s, q, rfl, hq.out.1, by have := hq.out.2; omega, hsz, hb⟩
end Go.Proofs.Ytpngikmcjkjdaab
