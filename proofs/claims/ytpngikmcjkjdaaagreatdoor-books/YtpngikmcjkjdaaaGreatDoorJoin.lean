import Derived.Test.YtpngikmcjkjdaaaGreatDoorPair
import Derived.Test.YtpngikmcjkjdaaaGreatDoorWideLeast
namespace Go.Proofs.YtpngikmcjkjdaaaGreatDoor
open Go.RowKit
set_option linter.unusedVariables false

theorem Tryz.infoB : (Tryz.prog.info? 38).map (fun i => (i.zero, i.size, i.bytes)) = some (some (.slice none 0 0), 1, 24) := by kernel_rfl

/-- What a wrapper hands on. -/
theorem LeastPost.wrap {L : List Nat → Bool} {budget bound : Nat} {w w0 w1 : World} {e : Ending} (h : LeastPost L budget bound w0 e w1) (h0 : Below w.heap.size w w0) (hs : w.heap.size ≤ w0.heap.size) :
    ∃ a0 n0 c0 a1 n1 c1 er, e = .returned (.tuple #[.agg #[.slice a0 n0 c0, .slice a1 n1 c1], .int .i64 er]) ∧ Below w.heap.size w w1 ∧ Below w0.heap.size w0 w1 ∧
      ∀ b, w.heap.size ≤ b → b < w0.heap.size → LeastPost L budget bound w e ((w1.setCell ⟨b, 0, none⟩ (.slice a0 n0 c0)).setCell ⟨b, 1, none⟩ (.slice a1 n1 c1)) := by
  obtain ⟨hb, hc⟩ := h
  have hB := h0.trans (hb.mono hs)
  rcases hc with ⟨R, V, hR, hn, rfl, hT, hF, hFr⟩ | ⟨rfl, hlt, hR⟩
  · exact ⟨_, _, _, _, _, _, _, rfl, hB, hb, fun b h1 h2 => ⟨below_res hB h1 _ _, .inl ⟨R, V, hR, hn, rfl, hT.res hF h2 _ _, hF.mono hs, (hFr.set _ _ _).set _ _ _⟩⟩⟩
  · exact ⟨_, _, _, _, _, _, _, rfl, hB, hb, fun b h1 h2 => ⟨below_res hB h1 _ _, .inr ⟨rfl, hlt, hR⟩⟩⟩

set_option maxRecDepth 20000 in
set_option maxHeartbeats 2000000 in
theorem tjoin_ok (V U : Lay) (M N : Tab) (how budget : Int) (w : World) (hM : M.Ok) (hN : N.Ok) (hV : TabAt w V M) (hU : TabAt w U N) (hh0 : 0 ≤ how) (hh1 : how ≤ 3) (hb0 : 1 ≤ budget) (hb1 : budget ≤ 40) :
    Calls Tryz.prog 81 #[.agg #[.slice (some ⟨V.ba, V.oa, none⟩) M.n V.ca, .slice (some ⟨V.bn, V.on, none⟩) M.n V.cn], .agg #[.slice (some ⟨U.ba, U.oa, none⟩) N.n U.ca, .slice (some ⟨U.bn, U.on, none⟩) N.n U.cn], .int .i64 how, .int .i64 budget] w
      (LeastPost (fun x => joinB how (M.accepts x) (N.accepts x)) budget.toNat (M.n * N.n) w) := by
  obtain ⟨bu, rfl⟩ := Int.eq_ofNat_of_zero_le (show 0 ≤ budget by omega)
  rw [Int.toNat_natCast]
  obtain ⟨W, hW⟩ : ∃ W, W = ((w.alloc (.cells #[.slice (some ⟨V.ba, V.oa, none⟩) M.n V.ca, .slice (some ⟨V.bn, V.on, none⟩) M.n V.cn] 41)).alloc (.cells #[.slice (some ⟨U.ba, U.oa, none⟩) N.n U.ca, .slice (some ⟨U.bn, U.on, none⟩) N.n U.cn] 41)).alloc
      (.cells #[.slice none 0 0, .slice none 0 0] 41) := ⟨_, rfl⟩
  have BW : Below w.heap.size w W := by
    rw [hW]; exact (((Below.refl _ _).alloc (Nat.le_refl _) _).alloc (by simp) _).alloc (by simp; omega) _
  have hWs : W.heap.size = w.heap.size + 1 + 1 + 1 := by rw [hW]; simp
  have b0 : W.heap[w.heap.size]? = some (.cells #[.slice (some ⟨V.ba, V.oa, none⟩) M.n V.ca, .slice (some ⟨V.bn, V.on, none⟩) M.n V.cn] 41 (0, 0)) := by rw [hW]; exact heap_at_old (heap_at_old (heap_at_new (by simp)))
  have b1 : W.heap[w.heap.size + 1]? = some (.cells #[.slice (some ⟨U.ba, U.oa, none⟩) N.n U.ca, .slice (some ⟨U.bn, U.on, none⟩) N.n U.cn] 41 (0, 0)) := by rw [hW]; exact heap_at_old (heap_at_new (by simp))
  have b2 : W.heap[w.heap.size + 1 + 1]? = some (.cells #[.slice none 0 0, .slice none 0 0] 41 (0, 0)) := by rw [hW]; exact heap_at_new (by simp)
  have hV0 := hV.below BW
  have hU0 := hU.below BW
  obtain ⟨x0, x1, _, _⟩ := cell_two b0
  go_enter Tryz.func81, Tryz.ntmps81
  go_wp2_with fail
  rw [← hW]
  clear hW
  refine (valid_ok V M _ hM hV0).mono ?_
  rintro e w1 ⟨rfl, hB1⟩
  have a0 := (hB1.block _ (by omega)).trans b0
  have a1 := (hB1.block _ (by omega)).trans b1
  have a2 := (hB1.block _ (by omega)).trans b2
  have hs1 := hB1.size
  have hV1 := hV0.below hB1
  have hU1 := hU0.below hB1
  have BW1 : Below w.heap.size w w1 := BW.trans (hB1.mono (by omega))
  clear x0 x1 b0 b1 b2 hB1 hV0 hU0 BW
  obtain ⟨x2, x3, _, _⟩ := cell_two a1
  go_wp2_with fail
  refine (valid_ok U N _ hN hU1).mono ?_
  rintro e w2 ⟨rfl, hB2⟩
  have b0 := (hB2.block _ (by omega)).trans a0
  have b1 := (hB2.block _ (by omega)).trans a1
  have b2 := (hB2.block _ (by omega)).trans a2
  have hs2 := hB2.size
  have hV2 := hV1.below hB2
  have hU2 := hU1.below hB2
  have BW2 : Below w.heap.size w w2 := BW1.trans (hB2.mono (by omega))
  clear x2 x3 a0 a1 a2 hB2 hV1 hU1 BW1
  obtain ⟨x0, x1, _, _⟩ := cell_two b0
  obtain ⟨x2, x3, _, _⟩ := cell_two b1
  go_wp2_with fail
  refine (pairUp_ok V U M N how _ hM hN hV2 hU2 hh0 hh1).mono ?_
  rintro e w3 ⟨hB3, ps, gw, ga, ca, gn, cn, hR, rfl, hWd⟩
  have a2 := (hB3.block _ (by omega)).trans b2
  have hs3 := hB3.size
  have BW3 : Below w.heap.size w w3 := BW2.trans (hB3.mono (by omega))
  clear x0 x1 x2 x3 b0 b1 b2 hB3 hV2 hU2 BW2 hV hU
  have hnum := pair_numbered (how := how) hR
  have hlang := fun x hx => pair_accepts hM hN (how := how) hR x hx
  have hbd := hR.bound hN
  have hps : ps.length ≤ 1600 := by have := Nat.mul_le_mul hM.hi hN.hi; omega
  have HC := wleast_ok gw ga ca gn cn (pairTab M N how ps) (fun x => joinB how (M.accepts x) (N.accepts x)) bu w3 hWd hnum (by show ps.length ≤ 100000000; omega) hlang (by omega) (by omega)
  have HBD : Hid (ps.length ≤ M.n * N.n) := hbd
  clear hnum hlang hR hWd hbd
  go_wp2_with fail
  refine HC.mono ?_
  clear HC
  intro e w5 hp
  obtain ⟨a0, n0, c0, a1, n1, c1, er, rfl, hB, hB1, hfin⟩ := (hp.bmono (b' := M.n * N.n) HBD.out).wrap BW3 (by omega)
  have a3 := (hB1.block _ (by omega)).trans a2
  have HF : Hid _ := hfin (w.heap.size + 1 + 1) (by omega) (by omega)
  obtain ⟨q0, q1, p0, p1⟩ := cell_two a3
  clear hp hfin hB1 a2 HBD
  go_wp2_with fail
  obtain ⟨r1, r2, r3⟩ := res_two (u := .slice a0 n0 c0) (v := .slice a1 n1 c1) a3
  refine bodyPost_ret (v := .tuple #[.agg #[.slice a0 n0 c0, .slice a1 n1 c1], .int .i64 er]) (by simp [results, Tryz.results81, go_sem, r1, r2]) rfl ?_
  exact HF.out

set_option maxRecDepth 20000 in
set_option maxHeartbeats 1000000 in
theorem join_ok (V U : Lay) (M N : Tab) (how budget : Int) (w : World) (hM : M.Ok) (hN : N.Ok) (hV : TabAt w V M) (hU : TabAt w U N) (hh0 : 0 ≤ how) (hh1 : how ≤ 3) (hb0 : 1 ≤ budget) (hb1 : budget ≤ 40) :
    Calls Tryz.prog 40 #[.agg #[.slice (some ⟨V.ba, V.oa, none⟩) M.n V.ca, .slice (some ⟨V.bn, V.on, none⟩) M.n V.cn], .agg #[.slice (some ⟨U.ba, U.oa, none⟩) N.n U.ca, .slice (some ⟨U.bn, U.on, none⟩) N.n U.cn], .int .i64 how, .int .i64 budget] w
      (LeastPost (fun x => joinB how (M.accepts x) (N.accepts x)) budget.toNat (M.n * N.n) w) := by
  obtain ⟨W, hW⟩ : ∃ W, W = ((w.alloc (.cells #[.slice (some ⟨V.ba, V.oa, none⟩) M.n V.ca, .slice (some ⟨V.bn, V.on, none⟩) M.n V.cn] 41)).alloc (.cells #[.slice (some ⟨U.ba, U.oa, none⟩) N.n U.ca, .slice (some ⟨U.bn, U.on, none⟩) N.n U.cn] 41)).alloc
      (.cells #[.slice none 0 0, .slice none 0 0] 41) := ⟨_, rfl⟩
  have BW : Below w.heap.size w W := by
    rw [hW]; exact (((Below.refl _ _).alloc (Nat.le_refl _) _).alloc (by simp) _).alloc (by simp; omega) _
  have hWs : W.heap.size = w.heap.size + 1 + 1 + 1 := by rw [hW]; simp
  have b2 : W.heap[w.heap.size + 1 + 1]? = some (.cells #[.slice none 0 0, .slice none 0 0] 41 (0, 0)) := by rw [hW]; exact heap_at_new (by simp)
  have HC := tjoin_ok V U M N how budget W hM hN (hV.below BW) (hU.below BW) hh0 hh1 hb0 hb1
  clear hV hU
  go_enter Tryz.func40, Tryz.ntmps40
  go_wp2_with fail
  rw [← hW]
  clear hW
  refine HC.mono ?_
  intro e w1 hp
  obtain ⟨a0, n0, c0, a1, n1, c1, er, rfl, hB, hB1, hfin⟩ := hp.wrap BW (by omega)
  have a2 := (hB1.block _ (by omega)).trans b2
  have HF : Hid _ := hfin (w.heap.size + 1 + 1) (by omega) (by omega)
  obtain ⟨q0, q1, p0, p1⟩ := cell_two a2
  clear HC hp hfin hB1 b2
  go_wp2_with fail
  obtain ⟨r1, r2, r3⟩ := res_two (u := .slice a0 n0 c0) (v := .slice a1 n1 c1) a2
  refine bodyPost_ret (v := .tuple #[.agg #[.slice a0 n0 c0, .slice a1 n1 c1], .int .i64 er]) (by simp [results, Tryz.results40, go_sem, r1, r2]) rfl ?_
  exact HF.out

theorem LeastPost.congr {L L' : List Nat → Bool} {budget bound : Nat} {w w' : World} {e : Ending} (h : LeastPost L budget bound w e w') (hL : ∀ x, Notes x → L x = L' x) : LeastPost L' budget bound w e w' := by
  obtain ⟨hb, hc⟩ := h
  refine ⟨hb, ?_⟩
  rcases hc with ⟨R, V, hR, hn, he, hT, hF, hFr⟩ | ⟨he, hlt, hR⟩
  · exact .inl ⟨R, V, ⟨hR.num, hR.apart, fun x hx => by rw [hR.lang x hx, hL x hx]⟩, hn, he, hT, hF, hFr⟩
  · exact .inr ⟨he, hlt, fun R' hR' => hR R' ⟨hR'.num, hR'.apart, fun x hx => by rw [hR'.lang x hx, hL x hx]⟩⟩

set_option maxRecDepth 20000 in
set_option maxHeartbeats 1000000 in
theorem tleast_ok (V : Lay) (M : Tab) (w : World) (hM : M.Ok) (hV : TabAt w V M) :
    Calls Tryz.prog 79 #[.agg #[.slice (some ⟨V.ba, V.oa, none⟩) M.n V.ca, .slice (some ⟨V.bn, V.on, none⟩) M.n V.cn]] w
      (LeastPost M.accepts 40 (M.n * M.n) w) := by
  obtain ⟨W, hW⟩ : ∃ W, W = (w.alloc (.cells #[.slice (some ⟨V.ba, V.oa, none⟩) M.n V.ca, .slice (some ⟨V.bn, V.on, none⟩) M.n V.cn] 41)).alloc
      (.cells #[.slice none 0 0, .slice none 0 0] 41) := ⟨_, rfl⟩
  have BW : Below w.heap.size w W := by
    rw [hW]; exact ((Below.refl _ _).alloc (Nat.le_refl _) _).alloc (by simp) _
  have hWs : W.heap.size = w.heap.size + 1 + 1 := by rw [hW]; simp
  have b2 : W.heap[w.heap.size + 1]? = some (.cells #[.slice none 0 0, .slice none 0 0] 41 (0, 0)) := by rw [hW]; exact heap_at_new (by simp)
  have HC := tjoin_ok V V M M 0 40 W hM hM (hV.below BW) (hV.below BW) (by omega) (by omega) (by omega) (by omega)
  clear hV
  go_enter Tryz.func79, Tryz.ntmps79
  go_wp2_with fail
  rw [← hW]
  clear hW
  refine HC.mono ?_
  intro e w1 hp
  have hp' := hp.congr (L' := M.accepts) (fun x _ => by simp [joinB])
  obtain ⟨a0, n0, c0, a1, n1, c1, er, rfl, hB, hB1, hfin⟩ := hp'.wrap BW (by omega)
  have a2 := (hB1.block _ (by omega)).trans b2
  have HF : Hid _ := hfin (w.heap.size + 1) (by omega) (by omega)
  obtain ⟨q0, q1, p0, p1⟩ := cell_two a2
  clear HC hp hp' hfin hB1 b2
  go_wp2_with fail
  obtain ⟨r1, r2, r3⟩ := res_two (u := .slice a0 n0 c0) (v := .slice a1 n1 c1) a2
  refine bodyPost_ret (v := .tuple #[.agg #[.slice a0 n0 c0, .slice a1 n1 c1], .int .i64 er]) (by simp [results, Tryz.results79, go_sem, r1, r2]) rfl ?_
  exact HF.out
set_option maxRecDepth 20000 in
set_option maxHeartbeats 1000000 in
theorem least_ok (V : Lay) (M : Tab) (w : World) (hM : M.Ok) (hV : TabAt w V M) :
    Calls Tryz.prog 36 #[.agg #[.slice (some ⟨V.ba, V.oa, none⟩) M.n V.ca, .slice (some ⟨V.bn, V.on, none⟩) M.n V.cn]] w
      (LeastPost M.accepts 40 (M.n * M.n) w) := by
  obtain ⟨W, hW⟩ : ∃ W, W = (w.alloc (.cells #[.slice (some ⟨V.ba, V.oa, none⟩) M.n V.ca, .slice (some ⟨V.bn, V.on, none⟩) M.n V.cn] 41)).alloc
      (.cells #[.slice none 0 0, .slice none 0 0] 41) := ⟨_, rfl⟩
  have BW : Below w.heap.size w W := by
    rw [hW]; exact ((Below.refl _ _).alloc (Nat.le_refl _) _).alloc (by simp) _
  have hWs : W.heap.size = w.heap.size + 1 + 1 := by rw [hW]; simp
  have b2 : W.heap[w.heap.size + 1]? = some (.cells #[.slice none 0 0, .slice none 0 0] 41 (0, 0)) := by rw [hW]; exact heap_at_new (by simp)
  have HC := tleast_ok V M W hM (hV.below BW)
  clear hV
  go_enter Tryz.func36, Tryz.ntmps36
  go_wp2_with fail
  rw [← hW]
  clear hW
  refine HC.mono ?_
  intro e w1 hp
  obtain ⟨a0, n0, c0, a1, n1, c1, er, rfl, hB, hB1, hfin⟩ := hp.wrap BW (by omega)
  have a2 := (hB1.block _ (by omega)).trans b2
  have HF : Hid _ := hfin (w.heap.size + 1) (by omega) (by omega)
  obtain ⟨q0, q1, p0, p1⟩ := cell_two a2
  clear HC hp hfin hB1 b2
  go_wp2_with fail
  obtain ⟨r1, r2, r3⟩ := res_two (u := .slice a0 n0 c0) (v := .slice a1 n1 c1) a2
  refine bodyPost_ret (v := .tuple #[.agg #[.slice a0 n0 c0, .slice a1 n1 c1], .int .i64 er]) (by simp [results, Tryz.results36, go_sem, r1, r2]) rfl ?_
  exact HF.out

/-- The table of all texts. -/
def allTab : Tab := ⟨1, fun _ => true, fun _ _ => 0⟩
theorem allTab_ok : allTab.Ok := ⟨by decide, by decide, fun _ _ _ _ => by show 0 < 1; decide⟩
theorem allTab_accepts (x : List Nat) : allTab.accepts x = true := rfl

set_option maxRecDepth 20000 in
set_option maxHeartbeats 1000000 in
theorem everything_ok (w : World) :
    Calls Tryz.prog 123 #[] w fun e w' => ∃ V : Lay, e = .returned (.agg #[.slice (some ⟨V.ba, V.oa, none⟩) 1 V.ca, .slice (some ⟨V.bn, V.on, none⟩) 1 V.cn]) ∧ TabAt w' V allTab ∧ Below w.heap.size w w' := by
  have mk3 := run_make_row' (P := Tryz.prog) 24 3 (.int .i64 0) 8 Tryz.underlying24 Tryz.info3 rfl .i64 .i64 8 (by omega) (by omega)
  simp only [show ((8 : Nat) : Int) = 8 from rfl] at mk3
  go_enter Tryz.func123, Tryz.ntmps123
  go_wp2_with fail
  obtain ⟨W, hW⟩ : ∃ W, W = (((w.alloc (.cells #[.slice (some ⟨w.heap.size + 1, 0, none⟩) 1 1, .slice (some ⟨w.heap.size + 1 + 1 + 1, 0, none⟩) 1 1] 41)).alloc (.cells #[.bool true] 4)).alloc (.cells (madeCells #[.int .i64 0] 8) 3)).alloc (.cells #[.slice (some ⟨w.heap.size + 1 + 1, 0, none⟩) 8 8] 24) := ⟨_, rfl⟩
  have b0 : W.heap[w.heap.size]? = some (.cells #[.slice (some ⟨w.heap.size + 1, 0, none⟩) 1 1, .slice (some ⟨w.heap.size + 1 + 1 + 1, 0, none⟩) 1 1] 41 (0, 0)) := by rw [hW]; exact heap_at_old (heap_at_old (heap_at_old (heap_at_new (by simp))))
  have b1 : W.heap[w.heap.size + 1]? = some (.cells #[.bool true] 4 (0, 0)) := by rw [hW]; exact heap_at_old (heap_at_old (heap_at_new (by simp)))
  have b2 : W.heap[w.heap.size + 1 + 1]? = some (.cells (madeCells #[.int .i64 0] 8) 3 (0, 0)) := by rw [hW]; exact heap_at_old (heap_at_new (by simp))
  have b3 : W.heap[w.heap.size + 1 + 1 + 1]? = some (.cells #[.slice (some ⟨w.heap.size + 1 + 1, 0, none⟩) 8 8] 24 (0, 0)) := by rw [hW]; exact heap_at_new (by simp)
  have BW : Below w.heap.size w W := by
    rw [hW]; exact ((((Below.refl _ _).alloc (Nat.le_refl _) _).alloc (by simp) _).alloc (by simp; omega) _).alloc (by simp; omega) _
  rw [← hW]
  clear hW
  obtain ⟨r1, r2, _, _⟩ := cell_two b0
  refine bodyPost_ret (v := .agg #[.slice (some ⟨w.heap.size + 1, 0, none⟩) 1 1, .slice (some ⟨w.heap.size + 1 + 1 + 1, 0, none⟩) 1 1]) (by simp [results, Tryz.results123, go_sem, r1, r2]) rfl ?_
  refine ⟨⟨w.heap.size + 1, 0, 1, w.heap.size + 1 + 1 + 1, 0, 1, fun _ => w.heap.size + 1 + 1, fun _ => 0, fun _ => 8⟩, rfl, ⟨fun i hi => ?_, fun i hi => ?_, fun i c hi hc => ?_⟩, BW⟩
  · have : i = 0 := by have : i < 1 := hi; omega
    subst this; exact cell_of_one b1
  · have : i = 0 := by have : i < 1 := hi; omega
    subst this; exact cell_of_one b3
  · have h := (madeCells_rowIs b2).cell hc
    simp only [Nat.zero_add]; exact h

theorem joinB_not (b : Bool) : joinB 2 true b = !b := by simp [joinB]

set_option maxRecDepth 20000 in
set_option maxHeartbeats 1000000 in
theorem tnot_ok (V : Lay) (M : Tab) (w : World) (hM : M.Ok) (hV : TabAt w V M) :
    Calls Tryz.prog 80 #[.agg #[.slice (some ⟨V.ba, V.oa, none⟩) M.n V.ca, .slice (some ⟨V.bn, V.on, none⟩) M.n V.cn]] w
      (LeastPost (fun x => !M.accepts x) 40 (1 * M.n) w) := by
  obtain ⟨W, hW⟩ : ∃ W, W = (w.alloc (.cells #[.slice (some ⟨V.ba, V.oa, none⟩) M.n V.ca, .slice (some ⟨V.bn, V.on, none⟩) M.n V.cn] 41)).alloc
      (.cells #[.slice none 0 0, .slice none 0 0] 41) := ⟨_, rfl⟩
  have BW : Below w.heap.size w W := by
    rw [hW]; exact ((Below.refl _ _).alloc (Nat.le_refl _) _).alloc (by simp) _
  have hWs : W.heap.size = w.heap.size + 1 + 1 := by rw [hW]; simp
  have b0 : W.heap[w.heap.size]? = some (.cells #[.slice (some ⟨V.ba, V.oa, none⟩) M.n V.ca, .slice (some ⟨V.bn, V.on, none⟩) M.n V.cn] 41 (0, 0)) := by rw [hW]; exact heap_at_old (heap_at_new (by simp))
  have b2 : W.heap[w.heap.size + 1]? = some (.cells #[.slice none 0 0, .slice none 0 0] 41 (0, 0)) := by rw [hW]; exact heap_at_new (by simp)
  have hV0 := hV.below BW
  go_enter Tryz.func80, Tryz.ntmps80
  go_wp2_with fail
  rw [← hW]
  clear hW hV
  refine (everything_ok W).mono ?_
  rintro e w1 ⟨U, rfl, hU, hB1⟩
  have hs1 := hB1.size
  obtain ⟨W2, hW2⟩ : ∃ W2, W2 = w1.alloc (.cells #[.slice (some ⟨U.ba, U.oa, none⟩) 1 U.ca, .slice (some ⟨U.bn, U.on, none⟩) 1 U.cn] 41) := ⟨_, rfl⟩
  have hB2 : Below w1.heap.size w1 W2 := by rw [hW2]; exact (Below.refl _ _).alloc (Nat.le_refl _) _
  have hs2 := hB2.size
  have a0 := (hB1.block _ (by omega)).trans b0
  have a2 := (hB2.block _ (by omega)).trans ((hB1.block _ (by omega)).trans b2)
  have BW2 : Below w.heap.size w W2 := (BW.trans (hB1.mono (by omega))).trans (hB2.mono (by omega))
  have HC := tjoin_ok U V allTab M 2 40 W2 allTab_ok hM (hU.below hB2) ((hV0.below hB1).below hB2) (by omega) (by omega) (by omega) (by omega)
  clear hV0 hU hB1 hB2 b0 b2 BW
  obtain ⟨x0, x1, _, _⟩ := cell_two a0
  have hsa : w.heap.size < w1.heap.size := by omega
  have e1 : allTab.n = 1 := rfl
  rw [e1, hW2] at HC
  clear e1
  go_wp2_with fail
  refine HC.mono ?_
  rw [← hW2]
  clear HC hW2
  intro e w3 hp
  have hp' := hp.congr (L' := fun x => !M.accepts x) (fun x _ => joinB_not _)
  obtain ⟨a0', n0, c0, a1, n1, c1, er, rfl, hB, hB3, hfin⟩ := hp'.wrap BW2 (by omega)
  have a3 := (hB3.block _ (by omega)).trans a2
  have HF : Hid _ := hfin (w.heap.size + 1) (by omega) (by omega)
  obtain ⟨q0, q1, p0, p1⟩ := cell_two a3
  clear hp hp' hfin hB3 a2 x0 x1 a0
  go_wp2_with fail
  obtain ⟨r1, r2, r3⟩ := res_two (u := .slice a0' n0 c0) (v := .slice a1 n1 c1) a3
  refine bodyPost_ret (v := .tuple #[.agg #[.slice a0' n0 c0, .slice a1 n1 c1], .int .i64 er]) (by simp [results, Tryz.results80, go_sem, r1, r2]) rfl ?_
  exact HF.out

set_option maxRecDepth 20000 in
set_option maxHeartbeats 1000000 in
theorem not_ok (V : Lay) (M : Tab) (w : World) (hM : M.Ok) (hV : TabAt w V M) :
    Calls Tryz.prog 38 #[.agg #[.slice (some ⟨V.ba, V.oa, none⟩) M.n V.ca, .slice (some ⟨V.bn, V.on, none⟩) M.n V.cn]] w
      (LeastPost (fun x => !M.accepts x) 40 (1 * M.n) w) := by
  obtain ⟨W, hW⟩ : ∃ W, W = (w.alloc (.cells #[.slice (some ⟨V.ba, V.oa, none⟩) M.n V.ca, .slice (some ⟨V.bn, V.on, none⟩) M.n V.cn] 41)).alloc
      (.cells #[.slice none 0 0, .slice none 0 0] 41) := ⟨_, rfl⟩
  have BW : Below w.heap.size w W := by
    rw [hW]; exact ((Below.refl _ _).alloc (Nat.le_refl _) _).alloc (by simp) _
  have hWs : W.heap.size = w.heap.size + 1 + 1 := by rw [hW]; simp
  have b2 : W.heap[w.heap.size + 1]? = some (.cells #[.slice none 0 0, .slice none 0 0] 41 (0, 0)) := by rw [hW]; exact heap_at_new (by simp)
  have HC := tnot_ok V M W hM (hV.below BW)
  clear hV
  go_enter Tryz.func38, Tryz.ntmps38
  go_wp2_with fail
  rw [← hW]
  clear hW
  refine HC.mono ?_
  intro e w1 hp
  obtain ⟨a0, n0, c0, a1, n1, c1, er, rfl, hB, hB1, hfin⟩ := hp.wrap BW (by omega)
  have a2 := (hB1.block _ (by omega)).trans b2
  have HF : Hid _ := hfin (w.heap.size + 1) (by omega) (by omega)
  obtain ⟨q0, q1, p0, p1⟩ := cell_two a2
  clear HC hp hfin hB1 b2
  go_wp2_with fail
  obtain ⟨r1, r2, r3⟩ := res_two (u := .slice a0 n0 c0) (v := .slice a1 n1 c1) a2
  refine bodyPost_ret (v := .tuple #[.agg #[.slice a0 n0 c0, .slice a1 n1 c1], .int .i64 er]) (by simp [results, Tryz.results38, go_sem, r1, r2]) rfl ?_
  exact HF.out
end Go.Proofs.YtpngikmcjkjdaaaGreatDoor
