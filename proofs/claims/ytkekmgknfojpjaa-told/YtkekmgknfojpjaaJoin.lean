import Derived.Test.YtkekmgknfojpjaaPair
namespace Go.Proofs.Ytkekmgknfojpjaa
open Go.RowKit
set_option linter.unusedVariables false

/-- What a call answers that makes the least table of a language, within a budget. -/
def LeastPost (L : List Nat → Bool) (budget bound : Nat) (w : World) (e : Ending) (w' : World) : Prop :=
  Below w.heap.size w w' ∧
    ((∃ (R : Tab) (V : Lay), IsLeast R L ∧ R.n ≤ budget ∧ e = .returned (.tuple #[.agg #[.slice (some ⟨V.ba, V.oa, none⟩) R.n V.ca, .slice (some ⟨V.bn, V.on, none⟩) R.n V.cn], .int .i64 0]) ∧ TabAt w' V R ∧ V.From w.heap.size R.n) ∨
     (e = .returned (.tuple #[.agg #[.slice none 0 0, .slice none 0 0], .int .i64 5]) ∧ budget < bound ∧ ∀ R, IsLeast R L → budget < R.n))

theorem apart_ne {M : Tab} {i j : Nat} (h : Apart M i j) : i ≠ j := by
  intro e; subst e; obtain ⟨x, _, hd⟩ := h; exact hd rfl
theorem heads_le {M : Tab} (hs : List Nat) (hlt : ∀ c, c < hs.length → hs.getD c 0 < M.n) (hap : ∀ c d, c < d → d < hs.length → Apart M (hs.getD c 0) (hs.getD d 0)) : hs.length ≤ M.n := by
  refine nodup_bound M.n hs ?_ ?_
  · rw [List.Nodup, List.pairwise_iff_getElem]
    intro i j hi hj hij e
    have := apart_ne (hap i j hij hj)
    rw [List.getD_eq_getElem?_getD, List.getElem?_eq_getElem hi, List.getD_eq_getElem?_getD, List.getElem?_eq_getElem hj] at this
    exact this e
  · intro x hx
    obtain ⟨c, hc, rfl⟩ := mem_getD hx
    exact hlt c hc

theorem res_alloc {w : World} {b : Nat} {x y u v : Value} {t : TypeId} (h : w.heap[b]? = some (.cells #[x, y] t (0, 0))) (o : Obj) :
    (((w.setCell ⟨b, 0, none⟩ u).setCell ⟨b, 1, none⟩ v).alloc o).cell? ⟨b, 0, none⟩ = some u ∧ (((w.setCell ⟨b, 0, none⟩ u).setCell ⟨b, 1, none⟩ v).alloc o).cell? ⟨b, 1, none⟩ = some v :=
  ⟨(cell_two (heap_at_old (two_set1 (two_set0 h)))).1, (cell_two (heap_at_old (two_set1 (two_set0 h)))).2.1⟩
/-- The world behind the answer: two stores into the result's block, and a new block. -/
theorem below_res {w w5 : World} {b : Nat} (h : Below w.heap.size w w5) (hb : w.heap.size ≤ b) (u v : Value) : Below w.heap.size w ((w5.setCell ⟨b, 0, none⟩ u).setCell ⟨b, 1, none⟩ v) :=
  (h.setCell (p := ⟨b, 0, none⟩) hb _).setCell (p := ⟨b, 1, none⟩) hb _
theorem TabAt.res {w : World} {V : Lay} {M : Tab} (h : TabAt w V M) {N b : Nat} (hV : V.From N M.n) (hb : b < N) (u v : Value) : TabAt ((w.setCell ⟨b, 0, none⟩ u).setCell ⟨b, 1, none⟩ v) V M :=
  (h.set hV (p := ⟨b, 0, none⟩) hb u).set hV (p := ⟨b, 1, none⟩) hb v
theorem Lay.From.mono {V : Lay} {N N' n : Nat} (h : V.From N n) (hN : N' ≤ N) : V.From N' n := ⟨by have := h.a; omega, by have := h.b; omega, fun i hi => by have := h.r i hi; omega⟩

set_option maxHeartbeats 2000000 in
theorem tjoin_ok (V U : Lay) (M N : Tab) (how budget : Int) (w : World) (hM : M.Ok) (hN : N.Ok) (hV : TabAt w V M) (hU : TabAt w U N) (hh0 : 0 ≤ how) (hh1 : how ≤ 3) (hb0 : 1 ≤ budget) (hb1 : budget ≤ 40) :
    Calls Try.prog 25 #[.agg #[.slice (some ⟨V.ba, V.oa, none⟩) M.n V.ca, .slice (some ⟨V.bn, V.on, none⟩) M.n V.cn], .agg #[.slice (some ⟨U.ba, U.oa, none⟩) N.n U.ca, .slice (some ⟨U.bn, U.on, none⟩) N.n U.cn], .int .i64 how, .int .i64 budget] w
      (LeastPost (fun x => joinB how (M.accepts x) (N.accepts x)) budget.toNat (M.n * N.n) w) := by
  obtain ⟨bu, rfl⟩ := Int.eq_ofNat_of_zero_le (show 0 ≤ budget by omega)
  rw [Int.toNat_natCast]
  obtain ⟨W, hW⟩ : ∃ W, W = ((w.alloc (.cells #[.slice (some ⟨V.ba, V.oa, none⟩) M.n V.ca, .slice (some ⟨V.bn, V.on, none⟩) M.n V.cn] 26)).alloc (.cells #[.slice (some ⟨U.ba, U.oa, none⟩) N.n U.ca, .slice (some ⟨U.bn, U.on, none⟩) N.n U.cn] 26)).alloc
      (.cells #[.slice none 0 0, .slice none 0 0] 26) := ⟨_, rfl⟩
  have BW : Below w.heap.size w W := by
    rw [hW]; exact (((Below.refl _ _).alloc (Nat.le_refl _) _).alloc (by simp) _).alloc (by simp; omega) _
  have hWs : W.heap.size = w.heap.size + 1 + 1 + 1 := by rw [hW]; simp
  have b0 : W.heap[w.heap.size]? = some (.cells #[.slice (some ⟨V.ba, V.oa, none⟩) M.n V.ca, .slice (some ⟨V.bn, V.on, none⟩) M.n V.cn] 26 (0, 0)) := by rw [hW]; exact heap_at_old (heap_at_old (heap_at_new (by simp)))
  have b1 : W.heap[w.heap.size + 1]? = some (.cells #[.slice (some ⟨U.ba, U.oa, none⟩) N.n U.ca, .slice (some ⟨U.bn, U.on, none⟩) N.n U.cn] 26 (0, 0)) := by rw [hW]; exact heap_at_old (heap_at_new (by simp))
  have b2 : W.heap[w.heap.size + 1 + 1]? = some (.cells #[.slice none 0 0, .slice none 0 0] 26 (0, 0)) := by rw [hW]; exact heap_at_new (by simp)
  have hV0 := hV.below BW
  have hU0 := hU.below BW
  obtain ⟨x0, x1, _, _⟩ := cell_two b0
  go_enter Try.func25, Try.ntmps25
  go_wp2_with fail
  rw [← hW]
  clear hW
  refine (valid_ok V M _ hM hV0).mono ?_
  rintro e w1 ⟨rfl, hB1⟩
  have a0 := (hB1.block _ (by omega)).trans b0
  have a1 := (hB1.block _ (by omega)).trans b1
  have a2 := (hB1.block _ (by omega)).trans b2
  have hs1 := hB1.size
  have hV1 := hV0.below hB1
  have hU1 := hU0.below hB1
  have BW1 : Below w.heap.size w w1 := BW.trans (hB1.mono (by omega))
  clear x0 x1 b0 b1 b2 hB1 hV0 hU0 BW
  obtain ⟨x2, x3, _, _⟩ := cell_two a1
  go_wp2_with fail
  refine (valid_ok U N _ hN hU1).mono ?_
  rintro e w2 ⟨rfl, hB2⟩
  have b0 := (hB2.block _ (by omega)).trans a0
  have b1 := (hB2.block _ (by omega)).trans a1
  have b2 := (hB2.block _ (by omega)).trans a2
  have hs2 := hB2.size
  have hV2 := hV1.below hB2
  have hU2 := hU1.below hB2
  have BW2 : Below w.heap.size w w2 := BW1.trans (hB2.mono (by omega))
  clear x2 x3 a0 a1 a2 hB2 hV1 hU1 BW1
  obtain ⟨x0, x1, _, _⟩ := cell_two b0
  obtain ⟨x2, x3, _, _⟩ := cell_two b1
  go_wp2_with fail
  refine (pairUp_ok V U M N how _ hM hN hV2 hU2 hh0 hh1).mono ?_
  rintro e w3 ⟨hB3, ps, ga, ca, gn, cn, hR, rfl, hWd⟩
  have a2 := (hB3.block _ (by omega)).trans b2
  have hs3 := hB3.size
  have BW3 : Below w.heap.size w w3 := BW2.trans (hB3.mono (by omega))
  clear x0 x1 x2 x3 b0 b1 b2 hB3 hV2 hU2 BW2 hV hU
  obtain ⟨W4, hW4⟩ : ∃ W4, W4 = w3.alloc (.cells #[.slice (some ⟨ga, 0, none⟩) ps.length ca, .slice (some ⟨gn, 0, none⟩) ps.length cn] 52) := ⟨_, rfl⟩
  have hB4 : Below w3.heap.size w3 W4 := by rw [hW4]; exact (Below.refl _ _).alloc (Nat.le_refl _) _
  have hnum := pair_numbered (how := how) hR
  have hlang := fun x hx => pair_accepts hM hN (how := how) hR x hx
  have hbd := hR.bound hN
  have hps : ps.length ≤ 1600 := by have := Nat.mul_le_mul hM.hi hN.hi; omega
  have HC := shrink_ok ga ca gn cn (pairTab M N how ps) bu W4 (hWd.below hB4) (by omega) (by omega) hR.len hps hnum.nx
  have c2 := (hB4.block _ (by omega)).trans a2
  have hs4 := hB4.size
  have BW4 : Below w.heap.size w W4 := BW3.trans (hB4.mono (by omega))
  have HN : Hid (Numbered (pairTab M N how ps)) := hnum
  have HL : Hid (∀ x, Notes x → (pairTab M N how ps).accepts x = joinB how (M.accepts x) (N.accepts x)) := hlang
  clear hnum hlang hR hWd hB4 a2 BW3
  rw [hW4] at HC
  go_wp2_with fail
  refine HC.mono ?_
  rw [← hW4]
  clear HC hW4
  rintro e w5 ⟨hB5, hcase⟩
  have a2 := (hB5.block _ (by omega)).trans c2
  have BW5 : Below w.heap.size w w5 := BW4.trans (hB5.mono (by omega))
  have hs5 := hB5.size
  clear c2 hB5 BW4
  obtain ⟨q0, q1, p0, p1⟩ := cell_two a2
  have hsa : w.heap.size + 1 + 1 < w5.heap.size := by omega
  rcases hcase with ⟨f, hs, V', hst, hle, rfl, hT, hF⟩ | ⟨rfl, hs, hgt, hlt, hap⟩
  · have HS : Hid _ := hst
    clear hst
    go_wp2_with fail
    obtain ⟨r1, r2⟩ := res_alloc (u := .slice (some ⟨V'.ba, V'.oa, none⟩) hs.length V'.ca) (v := .slice (some ⟨V'.bn, V'.on, none⟩) hs.length V'.cn) a2 (.cells #[.slice (some ⟨V'.ba, V'.oa, none⟩) hs.length V'.ca, .slice (some ⟨V'.bn, V'.on, none⟩) hs.length V'.cn] 26)
    refine bodyPost_ret (v := .tuple #[.agg #[.slice (some ⟨V'.ba, V'.oa, none⟩) hs.length V'.ca, .slice (some ⟨V'.bn, V'.on, none⟩) hs.length V'.cn], .int .i64 0]) (by simp [results, Try.results25, go_sem, r1, r2]) rfl ?_
    have hBe := (below_res BW5 (b := w.heap.size + 1 + 1) (by omega) (.slice (some ⟨V'.ba, V'.oa, none⟩) hs.length V'.ca) (.slice (some ⟨V'.bn, V'.on, none⟩) hs.length V'.cn)).alloc (by simp; omega) (.cells #[.slice (some ⟨V'.ba, V'.oa, none⟩) hs.length V'.ca, .slice (some ⟨V'.bn, V'.on, none⟩) hs.length V'.cn] 26)
    have hTe := (hT.res hF (b := w.heap.size + 1 + 1) (by omega) (.slice (some ⟨V'.ba, V'.oa, none⟩) hs.length V'.ca) (.slice (some ⟨V'.bn, V'.on, none⟩) hs.length V'.cn)).below ((Below.refl _ _).alloc (Nat.le_refl _) (.cells #[.slice (some ⟨V'.ba, V'.oa, none⟩) hs.length V'.ca, .slice (some ⟨V'.bn, V'.on, none⟩) hs.length V'.cn] 26))
    exact ⟨hBe, .inl ⟨_, V', merged_least HN.out HS.out HL.out, hle, rfl, hTe, hF.mono (by omega)⟩⟩
  · go_wp2_with fail
    obtain ⟨r1, r2⟩ := res_alloc (u := .slice none 0 0) (v := .slice none 0 0) a2 (.cells #[.slice none 0 0, .slice none 0 0] 26)
    refine bodyPost_ret (v := .tuple #[.agg #[.slice none 0 0, .slice none 0 0], .int .i64 5]) (by simp [results, Try.results25, go_sem, r1, r2]) rfl ?_
    have hBe := (below_res BW5 (b := w.heap.size + 1 + 1) (by omega) (.slice none 0 0) (.slice none 0 0)).alloc (by simp; omega) (.cells #[.slice none 0 0, .slice none 0 0] 26)
    have hl := heads_le hs hlt hap
    have hl' : hs.length ≤ ps.length := hl
    exact ⟨hBe, .inr ⟨rfl, by omega, fun R hRl => by have := apart_le hRl HN.out HL.out hs hlt hap; omega⟩⟩

/-- What a wrapper hands on. -/
theorem LeastPost.wrap {L : List Nat → Bool} {budget bound : Nat} {w w0 w1 : World} {e : Ending} (h : LeastPost L budget bound w0 e w1) (h0 : Below w.heap.size w w0) (hs : w.heap.size ≤ w0.heap.size) :
    ∃ a0 n0 c0 a1 n1 c1 er, e = .returned (.tuple #[.agg #[.slice a0 n0 c0, .slice a1 n1 c1], .int .i64 er]) ∧ Below w.heap.size w w1 ∧ Below w0.heap.size w0 w1 ∧
      ∀ b, w.heap.size ≤ b → b < w0.heap.size → LeastPost L budget bound w e ((w1.setCell ⟨b, 0, none⟩ (.slice a0 n0 c0)).setCell ⟨b, 1, none⟩ (.slice a1 n1 c1)) := by
  obtain ⟨hb, hc⟩ := h
  have hB := h0.trans (hb.mono hs)
  rcases hc with ⟨R, V, hR, hn, rfl, hT, hF⟩ | ⟨rfl, hlt, hR⟩
  · exact ⟨_, _, _, _, _, _, _, rfl, hB, hb, fun b h1 h2 => ⟨below_res hB h1 _ _, .inl ⟨R, V, hR, hn, rfl, hT.res hF h2 _ _, hF.mono hs⟩⟩⟩
  · exact ⟨_, _, _, _, _, _, _, rfl, hB, hb, fun b h1 h2 => ⟨below_res hB h1 _ _, .inr ⟨rfl, hlt, hR⟩⟩⟩

set_option maxHeartbeats 1000000 in
theorem join_ok (V U : Lay) (M N : Tab) (how budget : Int) (w : World) (hM : M.Ok) (hN : N.Ok) (hV : TabAt w V M) (hU : TabAt w U N) (hh0 : 0 ≤ how) (hh1 : how ≤ 3) (hb0 : 1 ≤ budget) (hb1 : budget ≤ 40) :
    Calls Try.prog 16 #[.agg #[.slice (some ⟨V.ba, V.oa, none⟩) M.n V.ca, .slice (some ⟨V.bn, V.on, none⟩) M.n V.cn], .agg #[.slice (some ⟨U.ba, U.oa, none⟩) N.n U.ca, .slice (some ⟨U.bn, U.on, none⟩) N.n U.cn], .int .i64 how, .int .i64 budget] w
      (LeastPost (fun x => joinB how (M.accepts x) (N.accepts x)) budget.toNat (M.n * N.n) w) := by
  obtain ⟨W, hW⟩ : ∃ W, W = ((w.alloc (.cells #[.slice (some ⟨V.ba, V.oa, none⟩) M.n V.ca, .slice (some ⟨V.bn, V.on, none⟩) M.n V.cn] 26)).alloc (.cells #[.slice (some ⟨U.ba, U.oa, none⟩) N.n U.ca, .slice (some ⟨U.bn, U.on, none⟩) N.n U.cn] 26)).alloc
      (.cells #[.slice none 0 0, .slice none 0 0] 26) := ⟨_, rfl⟩
  have BW : Below w.heap.size w W := by
    rw [hW]; exact (((Below.refl _ _).alloc (Nat.le_refl _) _).alloc (by simp) _).alloc (by simp; omega) _
  have hWs : W.heap.size = w.heap.size + 1 + 1 + 1 := by rw [hW]; simp
  have b2 : W.heap[w.heap.size + 1 + 1]? = some (.cells #[.slice none 0 0, .slice none 0 0] 26 (0, 0)) := by rw [hW]; exact heap_at_new (by simp)
  have HC := tjoin_ok V U M N how budget W hM hN (hV.below BW) (hU.below BW) hh0 hh1 hb0 hb1
  clear hV hU
  go_enter Try.func16, Try.ntmps16
  go_wp2_with fail
  rw [← hW]
  clear hW
  refine HC.mono ?_
  intro e w1 hp
  obtain ⟨a0, n0, c0, a1, n1, c1, er, rfl, hB, hB1, hfin⟩ := hp.wrap BW (by omega)
  have a2 := (hB1.block _ (by omega)).trans b2
  have HF : Hid _ := hfin (w.heap.size + 1 + 1) (by omega) (by omega)
  obtain ⟨q0, q1, p0, p1⟩ := cell_two a2
  clear HC hp hfin hB1 b2
  go_wp2_with fail
  obtain ⟨r1, r2, r3⟩ := res_two (u := .slice a0 n0 c0) (v := .slice a1 n1 c1) a2
  refine bodyPost_ret (v := .tuple #[.agg #[.slice a0 n0 c0, .slice a1 n1 c1], .int .i64 er]) (by simp [results, Try.results16, go_sem, r1, r2]) rfl ?_
  exact HF.out

theorem LeastPost.congr {L L' : List Nat → Bool} {budget bound : Nat} {w w' : World} {e : Ending} (h : LeastPost L budget bound w e w') (hL : ∀ x, Notes x → L x = L' x) : LeastPost L' budget bound w e w' := by
  obtain ⟨hb, hc⟩ := h
  refine ⟨hb, ?_⟩
  rcases hc with ⟨R, V, hR, hn, he, hT, hF⟩ | ⟨he, hlt, hR⟩
  · exact .inl ⟨R, V, ⟨hR.num, hR.apart, fun x hx => by rw [hR.lang x hx, hL x hx]⟩, hn, he, hT, hF⟩
  · exact .inr ⟨he, hlt, fun R' hR' => hR R' ⟨hR'.num, hR'.apart, fun x hx => by rw [hR'.lang x hx, hL x hx]⟩⟩

set_option maxHeartbeats 1000000 in
theorem tleast_ok (V : Lay) (M : Tab) (w : World) (hM : M.Ok) (hV : TabAt w V M) :
    Calls Try.prog 21 #[.agg #[.slice (some ⟨V.ba, V.oa, none⟩) M.n V.ca, .slice (some ⟨V.bn, V.on, none⟩) M.n V.cn]] w
      (LeastPost M.accepts 40 (M.n * M.n) w) := by
  obtain ⟨W, hW⟩ : ∃ W, W = (w.alloc (.cells #[.slice (some ⟨V.ba, V.oa, none⟩) M.n V.ca, .slice (some ⟨V.bn, V.on, none⟩) M.n V.cn] 26)).alloc
      (.cells #[.slice none 0 0, .slice none 0 0] 26) := ⟨_, rfl⟩
  have BW : Below w.heap.size w W := by
    rw [hW]; exact ((Below.refl _ _).alloc (Nat.le_refl _) _).alloc (by simp) _
  have hWs : W.heap.size = w.heap.size + 1 + 1 := by rw [hW]; simp
  have b2 : W.heap[w.heap.size + 1]? = some (.cells #[.slice none 0 0, .slice none 0 0] 26 (0, 0)) := by rw [hW]; exact heap_at_new (by simp)
  have HC := tjoin_ok V V M M 0 40 W hM hM (hV.below BW) (hV.below BW) (by omega) (by omega) (by omega) (by omega)
  clear hV
  go_enter Try.func21, Try.ntmps21
  go_wp2_with fail
  rw [← hW]
  clear hW
  refine HC.mono ?_
  intro e w1 hp
  have hp' := hp.congr (L' := M.accepts) (fun x _ => by simp [joinB])
  obtain ⟨a0, n0, c0, a1, n1, c1, er, rfl, hB, hB1, hfin⟩ := hp'.wrap BW (by omega)
  have a2 := (hB1.block _ (by omega)).trans b2
  have HF : Hid _ := hfin (w.heap.size + 1) (by omega) (by omega)
  obtain ⟨q0, q1, p0, p1⟩ := cell_two a2
  clear HC hp hp' hfin hB1 b2
  go_wp2_with fail
  obtain ⟨r1, r2, r3⟩ := res_two (u := .slice a0 n0 c0) (v := .slice a1 n1 c1) a2
  refine bodyPost_ret (v := .tuple #[.agg #[.slice a0 n0 c0, .slice a1 n1 c1], .int .i64 er]) (by simp [results, Try.results21, go_sem, r1, r2]) rfl ?_
  exact HF.out
set_option maxHeartbeats 1000000 in
theorem least_ok (V : Lay) (M : Tab) (w : World) (hM : M.Ok) (hV : TabAt w V M) :
    Calls Try.prog 9 #[.agg #[.slice (some ⟨V.ba, V.oa, none⟩) M.n V.ca, .slice (some ⟨V.bn, V.on, none⟩) M.n V.cn]] w
      (LeastPost M.accepts 40 (M.n * M.n) w) := by
  obtain ⟨W, hW⟩ : ∃ W, W = (w.alloc (.cells #[.slice (some ⟨V.ba, V.oa, none⟩) M.n V.ca, .slice (some ⟨V.bn, V.on, none⟩) M.n V.cn] 26)).alloc
      (.cells #[.slice none 0 0, .slice none 0 0] 26) := ⟨_, rfl⟩
  have BW : Below w.heap.size w W := by
    rw [hW]; exact ((Below.refl _ _).alloc (Nat.le_refl _) _).alloc (by simp) _
  have hWs : W.heap.size = w.heap.size + 1 + 1 := by rw [hW]; simp
  have b2 : W.heap[w.heap.size + 1]? = some (.cells #[.slice none 0 0, .slice none 0 0] 26 (0, 0)) := by rw [hW]; exact heap_at_new (by simp)
  have HC := tleast_ok V M W hM (hV.below BW)
  clear hV
  go_enter Try.func9, Try.ntmps9
  go_wp2_with fail
  rw [← hW]
  clear hW
  refine HC.mono ?_
  intro e w1 hp
  obtain ⟨a0, n0, c0, a1, n1, c1, er, rfl, hB, hB1, hfin⟩ := hp.wrap BW (by omega)
  have a2 := (hB1.block _ (by omega)).trans b2
  have HF : Hid _ := hfin (w.heap.size + 1) (by omega) (by omega)
  obtain ⟨q0, q1, p0, p1⟩ := cell_two a2
  clear HC hp hfin hB1 b2
  go_wp2_with fail
  obtain ⟨r1, r2, r3⟩ := res_two (u := .slice a0 n0 c0) (v := .slice a1 n1 c1) a2
  refine bodyPost_ret (v := .tuple #[.agg #[.slice a0 n0 c0, .slice a1 n1 c1], .int .i64 er]) (by simp [results, Try.results9, go_sem, r1, r2]) rfl ?_
  exact HF.out

/-- The table of all texts. -/
def allTab : Tab := ⟨1, fun _ => true, fun _ _ => 0⟩
theorem allTab_ok : allTab.Ok := ⟨by decide, by decide, fun _ _ _ _ => by show 0 < 1; decide⟩
theorem allTab_accepts (x : List Nat) : allTab.accepts x = true := rfl

set_option maxHeartbeats 1000000 in
theorem everything_ok (w : World) :
    Calls Try.prog 29 #[] w fun e w' => ∃ V : Lay, e = .returned (.agg #[.slice (some ⟨V.ba, V.oa, none⟩) 1 V.ca, .slice (some ⟨V.bn, V.on, none⟩) 1 V.cn]) ∧ TabAt w' V allTab ∧ Below w.heap.size w w' := by
  have mk3 := run_make_row' (P := Try.prog) 22 3 (.int .i64 0) 8 Try.underlying22 Try.info3 rfl .i64 .i64 8 (by omega) (by omega)
  simp only [show ((8 : Nat) : Int) = 8 from rfl] at mk3
  go_enter Try.func29, Try.ntmps29
  go_wp2_with fail
  obtain ⟨W, hW⟩ : ∃ W, W = (((w.alloc (.cells #[.slice (some ⟨w.heap.size + 1, 0, none⟩) 1 1, .slice (some ⟨w.heap.size + 1 + 1 + 1, 0, none⟩) 1 1] 26)).alloc (.cells #[.bool true] 4)).alloc (.cells (madeCells #[.int .i64 0] 8) 3)).alloc (.cells #[.slice (some ⟨w.heap.size + 1 + 1, 0, none⟩) 8 8] 22) := ⟨_, rfl⟩
  have b0 : W.heap[w.heap.size]? = some (.cells #[.slice (some ⟨w.heap.size + 1, 0, none⟩) 1 1, .slice (some ⟨w.heap.size + 1 + 1 + 1, 0, none⟩) 1 1] 26 (0, 0)) := by rw [hW]; exact heap_at_old (heap_at_old (heap_at_old (heap_at_new (by simp))))
  have b1 : W.heap[w.heap.size + 1]? = some (.cells #[.bool true] 4 (0, 0)) := by rw [hW]; exact heap_at_old (heap_at_old (heap_at_new (by simp)))
  have b2 : W.heap[w.heap.size + 1 + 1]? = some (.cells (madeCells #[.int .i64 0] 8) 3 (0, 0)) := by rw [hW]; exact heap_at_old (heap_at_new (by simp))
  have b3 : W.heap[w.heap.size + 1 + 1 + 1]? = some (.cells #[.slice (some ⟨w.heap.size + 1 + 1, 0, none⟩) 8 8] 22 (0, 0)) := by rw [hW]; exact heap_at_new (by simp)
  have BW : Below w.heap.size w W := by
    rw [hW]; exact ((((Below.refl _ _).alloc (Nat.le_refl _) _).alloc (by simp) _).alloc (by simp; omega) _).alloc (by simp; omega) _
  rw [← hW]
  clear hW
  obtain ⟨r1, r2, _, _⟩ := cell_two b0
  refine bodyPost_ret (v := .agg #[.slice (some ⟨w.heap.size + 1, 0, none⟩) 1 1, .slice (some ⟨w.heap.size + 1 + 1 + 1, 0, none⟩) 1 1]) (by simp [results, Try.results29, go_sem, r1, r2]) rfl ?_
  refine ⟨⟨w.heap.size + 1, 0, 1, w.heap.size + 1 + 1 + 1, 0, 1, fun _ => w.heap.size + 1 + 1, fun _ => 0, fun _ => 8⟩, rfl, ⟨fun i hi => ?_, fun i hi => ?_, fun i c hi hc => ?_⟩, BW⟩
  · have : i = 0 := by have : i < 1 := hi; omega
    subst this; exact cell_of_one b1
  · have : i = 0 := by have : i < 1 := hi; omega
    subst this; exact cell_of_one b3
  · have h := (madeCells_rowIs b2).cell hc
    simp only [Nat.zero_add]; exact h

theorem joinB_not (b : Bool) : joinB 2 true b = !b := by simp [joinB]

set_option maxHeartbeats 1000000 in
theorem tnot_ok (V : Lay) (M : Tab) (w : World) (hM : M.Ok) (hV : TabAt w V M) :
    Calls Try.prog 24 #[.agg #[.slice (some ⟨V.ba, V.oa, none⟩) M.n V.ca, .slice (some ⟨V.bn, V.on, none⟩) M.n V.cn]] w
      (LeastPost (fun x => !M.accepts x) 40 (1 * M.n) w) := by
  obtain ⟨W, hW⟩ : ∃ W, W = (w.alloc (.cells #[.slice (some ⟨V.ba, V.oa, none⟩) M.n V.ca, .slice (some ⟨V.bn, V.on, none⟩) M.n V.cn] 26)).alloc
      (.cells #[.slice none 0 0, .slice none 0 0] 26) := ⟨_, rfl⟩
  have BW : Below w.heap.size w W := by
    rw [hW]; exact ((Below.refl _ _).alloc (Nat.le_refl _) _).alloc (by simp) _
  have hWs : W.heap.size = w.heap.size + 1 + 1 := by rw [hW]; simp
  have b0 : W.heap[w.heap.size]? = some (.cells #[.slice (some ⟨V.ba, V.oa, none⟩) M.n V.ca, .slice (some ⟨V.bn, V.on, none⟩) M.n V.cn] 26 (0, 0)) := by rw [hW]; exact heap_at_old (heap_at_new (by simp))
  have b2 : W.heap[w.heap.size + 1]? = some (.cells #[.slice none 0 0, .slice none 0 0] 26 (0, 0)) := by rw [hW]; exact heap_at_new (by simp)
  have hV0 := hV.below BW
  go_enter Try.func24, Try.ntmps24
  go_wp2_with fail
  rw [← hW]
  clear hW hV
  refine (everything_ok W).mono ?_
  rintro e w1 ⟨U, rfl, hU, hB1⟩
  have hs1 := hB1.size
  obtain ⟨W2, hW2⟩ : ∃ W2, W2 = w1.alloc (.cells #[.slice (some ⟨U.ba, U.oa, none⟩) 1 U.ca, .slice (some ⟨U.bn, U.on, none⟩) 1 U.cn] 26) := ⟨_, rfl⟩
  have hB2 : Below w1.heap.size w1 W2 := by rw [hW2]; exact (Below.refl _ _).alloc (Nat.le_refl _) _
  have hs2 := hB2.size
  have a0 := (hB1.block _ (by omega)).trans b0
  have a2 := (hB2.block _ (by omega)).trans ((hB1.block _ (by omega)).trans b2)
  have BW2 : Below w.heap.size w W2 := (BW.trans (hB1.mono (by omega))).trans (hB2.mono (by omega))
  have HC := tjoin_ok U V allTab M 2 40 W2 allTab_ok hM (hU.below hB2) ((hV0.below hB1).below hB2) (by omega) (by omega) (by omega) (by omega)
  clear hV0 hU hB1 hB2 b0 b2 BW
  obtain ⟨x0, x1, _, _⟩ := cell_two a0
  have hsa : w.heap.size < w1.heap.size := by omega
  have e1 : allTab.n = 1 := rfl
  rw [e1, hW2] at HC
  clear e1
  go_wp2_with fail
  refine HC.mono ?_
  rw [← hW2]
  clear HC hW2
  intro e w3 hp
  have hp' := hp.congr (L' := fun x => !M.accepts x) (fun x _ => joinB_not _)
  obtain ⟨a0', n0, c0, a1, n1, c1, er, rfl, hB, hB3, hfin⟩ := hp'.wrap BW2 (by omega)
  have a3 := (hB3.block _ (by omega)).trans a2
  have HF : Hid _ := hfin (w.heap.size + 1) (by omega) (by omega)
  obtain ⟨q0, q1, p0, p1⟩ := cell_two a3
  clear hp hp' hfin hB3 a2 x0 x1 a0
  go_wp2_with fail
  obtain ⟨r1, r2, r3⟩ := res_two (u := .slice a0' n0 c0) (v := .slice a1 n1 c1) a3
  refine bodyPost_ret (v := .tuple #[.agg #[.slice a0' n0 c0, .slice a1 n1 c1], .int .i64 er]) (by simp [results, Try.results24, go_sem, r1, r2]) rfl ?_
  exact HF.out

set_option maxHeartbeats 1000000 in
theorem not_ok (V : Lay) (M : Tab) (w : World) (hM : M.Ok) (hV : TabAt w V M) :
    Calls Try.prog 15 #[.agg #[.slice (some ⟨V.ba, V.oa, none⟩) M.n V.ca, .slice (some ⟨V.bn, V.on, none⟩) M.n V.cn]] w
      (LeastPost (fun x => !M.accepts x) 40 (1 * M.n) w) := by
  obtain ⟨W, hW⟩ : ∃ W, W = (w.alloc (.cells #[.slice (some ⟨V.ba, V.oa, none⟩) M.n V.ca, .slice (some ⟨V.bn, V.on, none⟩) M.n V.cn] 26)).alloc
      (.cells #[.slice none 0 0, .slice none 0 0] 26) := ⟨_, rfl⟩
  have BW : Below w.heap.size w W := by
    rw [hW]; exact ((Below.refl _ _).alloc (Nat.le_refl _) _).alloc (by simp) _
  have hWs : W.heap.size = w.heap.size + 1 + 1 := by rw [hW]; simp
  have b2 : W.heap[w.heap.size + 1]? = some (.cells #[.slice none 0 0, .slice none 0 0] 26 (0, 0)) := by rw [hW]; exact heap_at_new (by simp)
  have HC := tnot_ok V M W hM (hV.below BW)
  clear hV
  go_enter Try.func15, Try.ntmps15
  go_wp2_with fail
  rw [← hW]
  clear hW
  refine HC.mono ?_
  intro e w1 hp
  obtain ⟨a0, n0, c0, a1, n1, c1, er, rfl, hB, hB1, hfin⟩ := hp.wrap BW (by omega)
  have a2 := (hB1.block _ (by omega)).trans b2
  have HF : Hid _ := hfin (w.heap.size + 1) (by omega) (by omega)
  obtain ⟨q0, q1, p0, p1⟩ := cell_two a2
  clear HC hp hfin hB1 b2
  go_wp2_with fail
  obtain ⟨r1, r2, r3⟩ := res_two (u := .slice a0 n0 c0) (v := .slice a1 n1 c1) a2
  refine bodyPost_ret (v := .tuple #[.agg #[.slice a0 n0 c0, .slice a1 n1 c1], .int .i64 er]) (by simp [results, Try.results15, go_sem, r1, r2]) rfl ?_
  exact HF.out
end Go.Proofs.Ytkekmgknfojpjaa
