import Derived.Test.YtpngikmcjkjdaaaGreatDoorRefPlace
namespace Go.Proofs.YtpngikmcjkjdaaaGreatDoor
open Go.RowKit
set_option linter.unusedVariables false

theorem PRel.bnd {M : Tab} {S : Nat → Nat → Nat} {ps : List Nat} {p : Nat} (h : PRel (goodC M) S ps p) : ps.length ≤ M.n := nodup_bound M.n ps h.nd (fun x hx => (h.inr x hx).1)
/-- The memory of least's first half: the square, the list. -/
structure FoundMem (W : World) (B : Nat) (w : World) (g n : Nat) (rb : Nat → Nat) (D : Nat → Nat → Bool) (vf : Value) (fs : List Nat) : Prop where
  blw : Below B W w
  siz : B ≤ w.heap.size
  mat : MatTo w B g n n rb D
  own : w.ownsRow B 3 1 vf fs.length (ints fs)
theorem FoundMem.below {W w w2 : World} {B g n : Nat} {rb : Nat → Nat} {D : Nat → Nat → Bool} {vf : Value} {fs : List Nat} (h : FoundMem W B w g n rb D vf fs) (hb : Below w.heap.size w w2) : FoundMem W B w2 g n rb D vf fs :=
  ⟨h.blw.trans (hb.mono h.siz), Nat.le_trans h.siz hb.size, h.mat.below hb, ownsRow_below h.own hb⟩
theorem rowIs_own {w w2 : World} {b t n base e s k : Nat} {f : Nat → Value} {v : Value} {x : List Value} (h : w.rowIs b t n f) (ho : w.ownsRow base e s v k x) (hne : t ≠ e) (hg : w.grownBy w2 v.ownBlock) : w2.rowIs b t n f := by
  refine h.of_block (hg.block b h.lt (fun e' => ?_))
  rcases ho.2 with ⟨rfl, _⟩ | ⟨g, cap, cur, rfl, _, hg', _⟩
  · simp [Value.ownBlock] at e'
  · simp only [Value.ownBlock, Option.some.injEq] at e'
    subst e'
    obtain ⟨c, hb, _, _⟩ := h
    rw [hb] at hg'
    simp only [Option.some.injEq, Obj.cells.injEq] at hg'
    exact hne hg'.2.1
theorem MatTo.grown {w w2 : World} {B g n k base s m : Nat} {rb : Nat → Nat} {D : Nat → Nat → Bool} {v : Value} {x : List Value} (h : MatTo w B g n k rb D) (ho : w.ownsRow base 3 s v m x) (hg : w.grownBy w2 v.ownBlock) : MatTo w2 B g n k rb D :=
  ⟨rowIs_own h.top ho (by decide) hg, fun i hi => rowIs_own (h.row i hi) ho (by decide) hg, h.inj, h.lg, h.lr⟩
theorem FoundMem.app {W w w2 : World} {B g n : Nat} {rb : Nat → Nat} {D : Nat → Nat → Bool} {vf : Value} {fs : List Nat} (h : FoundMem W B w g n rb D vf fs) {s gg cap : Nat}
    (hown : w2.ownsRow B 3 1 (.slice (some ⟨gg, 0, none⟩) (fs.length + 1) cap) (fs.length + 1) (ints fs ++ [.int .i64 (s : Int)])) (hg : w.grownBy w2 vf.ownBlock) : FoundMem W B w2 g n rb D (.slice (some ⟨gg, 0, none⟩) (fs.length + 1) cap) (fs ++ [s]) :=
  ⟨h.blw.grown hg h.siz (fun x e => (h.own.lt x e).1), Nat.le_trans h.siz hg.size, h.mat.grown h.own hg, by rw [ints_snoc] at hown; simpa using hown⟩

/-- What the reference's least answers. -/
def RLeastPost (L : List Nat → Bool) (w : World) (e : Ending) (w' : World) : Prop :=
  Below w.heap.size w w' ∧ ∃ (U : Lay) (R : Tab), IsLeast R L ∧ e = .returned (.agg #[.slice (some ⟨U.ba, U.oa, none⟩) R.n U.ca, .slice (some ⟨U.bn, U.on, none⟩) R.n U.cn]) ∧ TabAt w' U R ∧ U.From w.heap.size R.n
/-- place finds what is there. -/
theorem place_found {M : Tab} {fs : List Nat} {D : Nat → Nat → Bool} (hD : ∀ x y, x < M.n → y < M.n → (D x y = true ↔ Apart M x y)) (hfs : ∀ i, i < fs.length → fs.getD i 0 < M.n) {s : Nat} (hs : s < M.n) (hmem : cr M s ∈ fs.map (cr M)) {w w' : World} {e : Ending} (h : PlacePost fs.length (fun i => fs.getD i 0) D s w e w') :
    e = .returned (.int .i64 ((fs.map (cr M)).idxOf (cr M s) : Nat)) ∧ w' = w := by
  have hp := place_mem (M := M) (fs := fs) hD hfs hs
  obtain ⟨h0, h1⟩ := h
  refine ⟨?_, h0⟩
  rcases h1 with ⟨k, hk, rfl, hd, hno⟩ | ⟨rfl, hno⟩
  · rw [(hp.1 k hk hd hno).2]
  · exact absurd hmem (hp.2 hno)

set_option maxRecDepth 20000 in
set_option maxHeartbeats 4000000 in
theorem rleast_ok (V : Lay) (M : Tab) (w : World) (hlo : 1 ≤ M.n) (hhi : M.n ≤ 100000000) (hnx : ∀ i c, i < M.n → c < 8 → M.nxt i c < M.n) (hV : TabAt w V M) :
    Calls Tryz.prog 67 #[.agg #[.slice (some ⟨V.ba, V.oa, none⟩) M.n V.ca, .slice (some ⟨V.bn, V.on, none⟩) M.n V.cn]] w
      (RLeastPost M.accepts w) := by
  obtain ⟨i3, hi3, hz3, hz31, hz32⟩ := info_parts Tryz.info3
  obtain ⟨i4, hi4, hz4, hz41, hz42⟩ := info_parts Tryz.info4
  obtain ⟨iR, hiR, hzR, hzR1, hzR2⟩ := info_parts Tryz.infoR
  obtain ⟨W, hW⟩ : ∃ W, W = (w.alloc (.cells #[.slice (some ⟨V.ba, V.oa, none⟩) M.n V.ca, .slice (some ⟨V.bn, V.on, none⟩) M.n V.cn] 41)).alloc (.cells #[.slice none 0 0, .slice none 0 0] 41) := ⟨_, rfl⟩
  have BW : Below w.heap.size w W := by rw [hW]; exact ((Below.refl _ _).alloc (Nat.le_refl _) _).alloc (by simp) _
  have hWs : W.heap.size = w.heap.size + 1 + 1 := by rw [hW]; simp
  have b0 : W.heap[w.heap.size]? = some (.cells #[.slice (some ⟨V.ba, V.oa, none⟩) M.n V.ca, .slice (some ⟨V.bn, V.on, none⟩) M.n V.cn] 41 (0, 0)) := by rw [hW]; exact heap_at_old (heap_at_new (by simp))
  have b1 : W.heap[w.heap.size + 1]? = some (.cells #[.slice none 0 0, .slice none 0 0] 41 (0, 0)) := by rw [hW]; exact heap_at_new (by simp)
  have hV0 := hV.below BW
  go_enter Tryz.func67, Tryz.ntmps67
  go_wp2_with fail
  rw [← hW]
  clear hW
  refine (differing_ok V M W hlo hhi hnx hV0).mono ?_
  rintro e w1 ⟨hB1, g, rb, D, rfl, hm, hD⟩
  have hs1 := hB1.size
  have hm1 : MatTo w1 (w.heap.size + 1 + 1) g M.n M.n rb D := ⟨hm.top, hm.row, hm.inj, by have := hm.lg; omega, fun i hi => by have := hm.lr i hi; omega⟩
  have hbW1 : Below (w.heap.size + 1 + 1) W w1 := hB1.mono (by omega)
  have P0 : FoundMem W (w.heap.size + 1 + 1) (w1.alloc (.cells #[.int .i64 0] 3)) g M.n rb D (.slice (some ⟨w1.heap.size, 0, none⟩) 1 1) [0] := by
    refine ⟨hbW1.alloc (by omega) _, by simp; omega, hm1.below ((Below.refl _ _).alloc (Nat.le_refl _) _), ?_⟩
    exact World.ownsRow_lit (base := w.heap.size + 1 + 1) (e := 3) (size := 1) w1 #[.int .i64 0] 1 (by omega) (by decide) rfl
  have hg0 : goodC M 0 := ⟨by omega, by have := cr_le M 0; omega⟩
  have Q0 : PRel (goodC M) (crS M) (([0] : List Nat).map (cr M)) 0 := by
    have : ([0] : List Nat).map (cr M) = [0] := by simp [hg0.2]
    rw [this]; exact PRel.start hg0
  go_wp2_with fail
  clear hm hm1 hB1 hbW1 hV0
  go_loopw [4, 5, 6, 7, 8] (fun vf k' _ _ _ wr => ∃ (k : Nat) (fs : List Nat), k ≤ fs.length ∧ k' = .int .i64 k ∧ FoundMem W (w.heap.size + 1 + 1) wr g M.n rb D vf fs ∧ PRel (goodC M) (crS M) (fs.map (cr M)) (8 * k) ∧ ∀ i, i < fs.length → fs.getD i 0 < M.n)
    (fun _ k' _ _ _ _ => M.n + 1 - (intOf k').toNat)
  case atStart => exact ⟨0, [0], by simp, rfl, P0, Q0, fun i hi => by
      have h0 : i = 0 := by simpa using hi
      rw [h0]; simp; omega⟩
  case round =>
    obtain ⟨k, fs, hk, rfl, hF, hR, hfs⟩ := hrel
    clear P0 Q0
    have hbd := hR.bnd
    rw [List.length_map] at hbd
    obtain ⟨af, cf, rfl, haf⟩ := ownsRow_shape hF.own
    have hbw : Below w.heap.size w wr := BW.trans (hF.blw.mono (by omega))
    obtain ⟨x0, x1, _, _⟩ := cell_two ((hF.blw.block _ (by omega)).trans b0)
    have hlen : 0 < fs.length := by have := hR.len; rw [List.length_map] at this; omega
    by_cases hlt : k < fs.length
    · have HF : Hid _ := hF
      have HR : Hid _ := hR
      have HFS : Hid _ := hfs
      clear hF hR hfs haf
      go_wp2_with fail
      go_loopw [4, 6, 7, 8] (fun vf c' _ _ wr => ∃ (c : Nat) (fs : List Nat), c ≤ 8 ∧ c' = .int .i64 c ∧ k < fs.length ∧ FoundMem W (w.heap.size + 1 + 1) wr g M.n rb D vf fs ∧ PRel (goodC M) (crS M) (fs.map (cr M)) (8 * k + c) ∧ ∀ i, i < fs.length → fs.getD i 0 < M.n)
        (fun _ c' _ _ _ => 8 - (intOf c').toNat)
      case atStart => exact ⟨0, fs, by omega, rfl, hlt, HF.out, HR.out, HFS.out⟩
      case round =>
        clear HF HR HFS hlt hbd hlen
        obtain ⟨c, fs, hc, rfl, hlt, hF, hR, hfs⟩ := hrel
        have hbd := hR.bnd
        rw [List.length_map] at hbd
        obtain ⟨af, cf, rfl, haf⟩ := ownsRow_shape hF.own
        obtain ⟨gf, rfl, hcf⟩ := haf (by omega)
        have hbw : Below w.heap.size w wr := BW.trans (hF.blw.mono (by omega))
        obtain ⟨x0, x1, _, _⟩ := cell_two ((hF.blw.block _ (by omega)).trans b0)
        have hnats := ints_at rfl hcf
        have HNT : Hid (NatsAt wr gf fs.length (fun i => fs.getD i 0)) := hnats
        have HF : Hid _ := hF
        have HR : Hid _ := hR
        have HFS : Hid _ := hfs
        by_cases hl8 : c < 8
        · have c0 := hnats k hlt
          have hfk := hfs k hlt
          obtain ⟨fk, HFK⟩ : ∃ x, Hid (fs.getD k 0 = x) := ⟨_, rfl⟩
          simp only at c0
          rw [HFK.out] at c0 hfk
          have y0 := (hV.below hbw).row fk hfk
          have y1 := (hV.below hbw).cel fk c hfk hl8
          have hs := hnx fk c hfk hl8
          obtain ⟨s, HS⟩ : ∃ x, Hid (M.nxt fk c = x) := ⟨_, rfl⟩
          rw [HS.out] at y1 hs
          have HSC : Hid (crS M ((fs.map (cr M)).getD ((8 * k + c) / 8) 0) ((8 * k + c) % 8) = cr M s) := by
            unfold Hid
            rw [show (8 * k + c) / 8 = k by omega, show (8 * k + c) % 8 = c by omega, crS_map M fs k c hlt hl8, HFK.out, HS.out]
          have hsz := hF.siz
          clear hF hR hfs haf hcf hnats
          go_wp2_with fail
          go_quiet (fail)
          have hFq := HF.out.below (below_drewN (Below.refl _ _) nq)
          have HC := place_ok (some ⟨gf, 0, none⟩) gf fs.length cf (fun i => fs.getD i 0) (w.heap.size + 1 + 1) g M.n rb D s (wr.drewN nq) (fun _ => rfl) (fun i hi => HNT.out i hi) (fun i hi => HFS.out i hi) hFq.mat hs (by omega) hhi
          have HFQ : Hid _ := hFq
          have HPM := place_mem (M := M) (fs := fs) hD HFS.out hs
          clear hFq
          go_wp2_with fail
          refine HC.mono ?_
          clear HC
          rintro e w2 ⟨hw2, hcase⟩
          obtain rfl : wr.drewN nq = w2 := hw2.symm
          rcases hcase with ⟨kk, hkk, rfl, hd, hno⟩ | ⟨rfl, hno⟩
          · have hmem := (HPM.1 kk hkk hd hno).1
            have hnn : ¬ ((kk : Int) < 0) := by omega
            have HMM : Hid _ := hmem
            clear HPM hd hno hmem
            go_wp2_with fail
            go_roundw
            case rel => exact ⟨c + 1, fs, by omega, by go_num, hlt, HFQ.out, HR.out.old (by rw [List.length_map]; omega) (by rw [HSC.out]; exact HMM.out), HFS.out⟩
            case measure => simp [intOf]; omega
          · have hnm := HPM.2 hno
            have HNM : Hid _ := hnm
            have hna := (HFQ.out.below ((Below.refl _ _).alloc (Nat.le_refl _) (.cells #[.int .i64 (s : Int)] 3))).own
            have HFA : Hid _ := HFQ.out.below ((Below.refl _ _).alloc (Nat.le_refl _) (.cells #[.int .i64 (s : Int)] 3))
            clear HPM hno hnm
            go_wp2_with (at_builtin; refine wpList_append_fresh _ rfl _ _ 24 rfl (w.heap.size + 1 + 1) 3 i3 (.int .i64 0) 1 8 Tryz.underlying24 hi3 hz3 hz31 hz32 rfl (by decide) _ fs.length (ints fs) rfl hna ⟨wr.heap.size, 0, none⟩ 1 1 [.int .i64 (s : Int)] rfl rfl (cell_one_new _ _ _) (by intro u hu; simp at hu; subst hu; rfl) (by decide) (by unfold maxLen; omega) (by omega) (by simp; omega) ?_; intro gg cap w3 hown hgr hfr; have HO : Hid _ := hown; have HG : Hid _ := hgr; clear hown hgr hfr)
            go_roundw
            case rel =>
              have hgd : goodC M (cr M s) := ⟨by have := cr_le M s; omega, cr_cr M s⟩
              have hnew := HR.out.new (by rw [List.length_map]; omega) (by rw [HSC.out]; exact HNM.out) (by rw [HSC.out]; exact hgd)
              rw [HSC.out] at hnew
              refine ⟨c + 1, fs ++ [s], by omega, by go_num, by simp; omega, by simpa using HFA.out.app HO.out HG.out, by rw [← Nat.add_assoc]; simpa using hnew, fun i hi => ?_⟩
              by_cases e : i < fs.length
              · rw [getD_app _ _ _ e]; exact HFS.out i e
              · have : i = fs.length := by simp at hi; omega
                subst this; simp [List.getD_eq_getElem?_getD, hs]
            case measure => simp [intOf]; omega
        · have he : c = 8 := by omega
          subst he
          clear hF hR hfs haf hcf hnats
          go_wp2_with fail
          go_roundw
          case rel => exact ⟨k + 1, fs, by omega, by go_num, HF.out, by rw [show 8 * (k + 1) = 8 * k + 8 by omega]; exact HR.out, HFS.out⟩
          case measure => simp [intOf]; omega
    · have he : k = fs.length := by omega
      subst he
      obtain ⟨ps, HPS⟩ : ∃ x, Hid (fs.map (cr M) = x) := ⟨_, rfl⟩
      rw [HPS.out] at hR
      have hpl : ps.length = fs.length := by rw [← HPS.out]; simp
      rw [← hpl] at hR
      have hL := quot_least hR
      obtain ⟨A, HA⟩ : ∃ A : Nat → Bool, Hid (A = fun k => M.acc (fs.getD k 0)) := ⟨_, rfl⟩
      obtain ⟨X, HX⟩ : ∃ X : Nat → Nat → Nat, Hid (X = (quotTab M ps).nxt) := ⟨_, rfl⟩
      have HQA : Hid (∀ k, k < fs.length → (quotTab M ps).acc k = A k) := by
        intro k hk
        rw [HA.out]
        show M.acc (ps.getD k 0) = M.acc (fs.getD k 0)
        rw [← HPS.out, crmap_getD M fs k hk]
        exact (cr_eqv M _).acc
      have HXC : Hid (∀ k c, k < fs.length → c < 8 → cr M (M.nxt (fs.getD k 0) c) ∈ ps ∧ ps.idxOf (cr M (M.nxt (fs.getD k 0) c)) = X k c) := by
        intro k c hk hc
        have h1 := (hR.clo (8 * k + c) (by omega)).2
        rw [show (8 * k + c) / 8 = k by omega, show (8 * k + c) % 8 = c by omega] at h1
        have h2 := crS_map M fs k c hk hc
        rw [HPS.out] at h2
        rw [h2] at h1
        refine ⟨h1, ?_⟩
        rw [HX.out]
        show _ = pn (crS M) ps k c
        unfold pn
        rw [h2]
      have HL : Hid _ := hL
      have HFS : Hid _ := hfs
      obtain ⟨gf, rfl, hcf⟩ := haf hlen
      have hnats := ints_at rfl hcf
      rename World => wo
      obtain ⟨W2, hW2⟩ : ∃ W2, W2 = wo.alloc (.cells #[.slice none 0 0, .slice none 0 0] 41) := ⟨_, rfl⟩
      have hB2 : Below wo.heap.size wo W2 := by rw [hW2]; exact (Below.refl _ _).alloc (Nat.le_refl _) _
      have hs2 : wo.heap.size < W2.heap.size := by rw [hW2]; simp
      have d0 : W2.heap[wo.heap.size]? = some (.cells #[.slice none 0 0, .slice none 0 0] 41 (0, 0)) := by rw [hW2]; exact heap_at_new rfl
      have d1 : W2.heap[w.heap.size]? = some (.cells #[.slice (some ⟨V.ba, V.oa, none⟩) M.n V.ca, .slice (some ⟨V.bn, V.on, none⟩) M.n V.cn] 41 (0, 0)) := (hB2.block _ (by have := hF.siz; omega)).trans ((hF.blw.block _ (by omega)).trans b0)
      have d2 : W2.heap[w.heap.size + 1]? = some (.cells #[.slice none 0 0, .slice none 0 0] 41 (0, 0)) := (hB2.block _ (by have := hF.siz; omega)).trans ((hF.blw.block _ (by omega)).trans b1)
      have hF2 := hF.below hB2
      have hbw2 : Below w.heap.size w W2 := hbw.trans (hB2.mono (by have := hF.siz; omega))
      have hnats2 := hnats.below hB2
      have hsz := hF.siz
      have B0 : BuildMem W2 wo.heap.size W2 (.slice none 0 0) (.slice none 0 0) 0 0 A (fun _ => 0) (fun _ => 0) X := BuildMem.start (Below.refl _ _) d0
      have HF2 : Hid _ := hF2
      have HGF : Hid (gf < wo.heap.size) := (hF.own.lt gf rfl).2
      have HGG : Hid (g < wo.heap.size) := hF.mat.top.lt
      have HGR : Hid (∀ i, i < M.n → rb i < wo.heap.size) := fun i hi => (hF.mat.row i hi).lt
      have HNT2 : Hid (NatsAt W2 gf fs.length (fun i => fs.getD i 0)) := hnats2
      clear hF hR hL hfs haf hcf hnats hbw hnats2 hF2
      go_upto_region 14 with fail
      rw [← hW2]
      clear hW2
      go_wp2_with fail
      go_loopw [10, 11, 12, 13] (fun k' _ _ _ wi => ∃ (k : Nat) (va vn : Value) (R C : Nat → Nat), k ≤ fs.length ∧ k' = .int .i64 k ∧ BuildMem W2 wo.heap.size wi va vn k k A R C X)
        (fun k' _ _ _ _ => fs.length - (intOf k').toNat)
      case atStart => exact ⟨0, _, _, _, _, by omega, rfl, B0⟩
      case round =>
        obtain ⟨k, va, vn, R, C, hk2, rfl, hB⟩ := hrel
        clear B0
        have hbm := hB.two.blw
        have hbw : Below w.heap.size w wr := hbw2.trans (hbm.mono (by omega))
        obtain ⟨x0, x1, _, _⟩ := cell_two ((hbm.block _ (by omega)).trans d1)
        obtain ⟨y0, y1, z0, z1⟩ := cell_two hB.two.blk
        have hszb := heap_lt hB.two.blk
        by_cases hltk : k < fs.length
        · have hgfl : gf < wo.heap.size := HGF.out
          have c0 : wr.cell? ⟨gf, k, none⟩ = some (.int .i64 (fs.getD k 0)) := by
            rw [hbm.cell (p := ⟨gf, k, none⟩) hgfl]; exact HNT2.out k hltk
          have hfk := HFS.out k hltk
          have HAK : Hid (A k = M.acc (fs.getD k 0)) := by unfold Hid; rw [HA.out]
          have hXk := fun c => HXC.out k c hltk
          obtain ⟨fk, HFK⟩ : ∃ x, Hid (fs.getD k 0 = x) := ⟨_, rfl⟩
          rw [HFK.out] at c0 hfk HAK
          have a0 := (hV.below hbw).acc fk hfk
          obtain ⟨bb, HBB⟩ : ∃ x, Hid (M.acc fk = x) := ⟨_, rfl⟩
          rw [HBB.out] at a0 HAK
          have HXK : Hid _ := hXk
          have HBa : Hid (BuildMem W2 wo.heap.size ((wr.alloc (.cells #[.bool bb] 4)).drew) va vn k k A R C X) := hB.below (((Below.refl _ _).alloc (Nat.le_refl _) _).drew)
          have hna := HBa.out.two.own0
          have HACC : Hid (∀ g cap' w2, w2.ownsRow (wo.heap.size + 1) 4 1 (.slice (some ⟨g, 0, none⟩) (k + 1) cap') (k + 1) (acells A k ++ [.bool bb]) →
              ((wr.alloc (.cells #[.bool bb] 4)).drew).grownBy w2 va.ownBlock → (va.ownBlock = some g ∨ g = wr.heap.size + 1) →
              BuildMem W2 wo.heap.size (w2.setCell ⟨wo.heap.size, 0, none⟩ (.slice (some ⟨g, 0, none⟩) (k + 1) cap')) (.slice (some ⟨g, 0, none⟩) (k + 1) cap') vn (k + 1) k A R C X) := by
            intro g cap' w2 ho hg hf
            rw [← HAK.out] at ho
            refine HBa.out.acc ho hg ?_
            rcases hf with hf | hf
            · exact .inl hf
            · right; rw [hf]; simp
          clear hB hXk
          go_upto_region 17 with fail
          go_cut [65] (fun _ wc => ∃ va', Hid (BuildMem W2 wo.heap.size wc va' vn (k + 1) k A R C X))
          case first =>
            go_region_law
              ((refine step_append_lies _ (by rfl) _ _ _ (by rfl) (wo.heap.size + 1) 4 i4 (.bool false) 1 1 Tryz.underlying38 hi4 hz4 hz41 hz42 rfl (by decide) va k (acells A k) (by rfl) hna ⟨wr.heap.size, 0, none⟩ 1 1 [.bool bb] (by rfl) (by rfl) (cell_one_new _ _ _) (by intro u hu; simp at hu; subst hu; rfl) (by decide) (by unfold maxLen; omega) (by omega) (by simp; omega) (wr.heap.size + 1) (by simp) ?_; intro g cap' w2 hown hgr hfr hlt2; obtain ⟨f0', f1', f2', f3'⟩ := cell_two (HBa.out.two.grown0 hgr); have HFR : Hid _ := hfr; clear hfr))
            all_goals go_wp2_with fail
            all_goals go_meet
            all_goals exact ⟨_, HACC.out g cap' w2 hown hgr HFR.out⟩
          case rest =>
            obtain ⟨va', hB'⟩ := hcut
            clear HACC HBa hna x0 x1 y0 y1 z0 z1 hbw hbm c0 a0
            go_wp2_with fail
            go_loopw [11, 12, 13] (fun vr c' _ wi => ∃ c : Nat, c ≤ 8 ∧ c' = .int .i64 c ∧ BuildMem W2 wo.heap.size wi va' vn (k + 1) k A R C X ∧
                wi.ownsRow (wo.heap.size + 1) 3 1 vr c (icells (X k) c) ∧ ∀ j, j < k → vr.ownBlock ≠ some (R j))
              (fun _ c' _ _ => 8 - (intOf c').toNat)
            case atStart => exact ⟨0, by omega, rfl, hB'.out, World.ownsRow_nil _ _ _ _, by intro j _ h; simp [Value.ownBlock] at h⟩
            case round =>
              clear hB'
              obtain ⟨c, hc, rfl, hBi, hr, hd⟩ := hrel
              have hbm := hBi.two.blw
              have hbw : Below w.heap.size w wr := hbw2.trans (hbm.mono (by omega))
              obtain ⟨x0, x1, _, _⟩ := cell_two ((hbm.block _ (by omega)).trans d1)
              have hsz2 := heap_lt hBi.two.blk
              by_cases hl8 : c < 8
              · have c0 : wr.cell? ⟨gf, k, none⟩ = some (.int .i64 fk) := by
                  rw [← HFK.out, hbm.cell (p := ⟨gf, k, none⟩) hgfl]; exact HNT2.out k hltk
                have y0 := (hV.below hbw).row fk hfk
                have y1 := (hV.below hbw).cel fk c hfk hl8
                have hs := hnx fk c hfk hl8
                have hxc := HXK.out c hl8
                rw [HFK.out] at hxc
                obtain ⟨s, HS⟩ : ∃ x, Hid (M.nxt fk c = x) := ⟨_, rfl⟩
                rw [HS.out] at y1 hs hxc
                obtain ⟨pv, HPV⟩ : ∃ x, Hid (X k c = x) := ⟨_, rfl⟩
                rw [HPV.out] at hxc
                have HMq : MatTo wr (w.heap.size + 1 + 1) g M.n M.n rb D := by
                  refine ⟨HF2.out.mat.top.of_block (hbm.block _ HGG.out), fun i hi => (HF2.out.mat.row i hi).of_block (hbm.block _ (HGR.out i hi)), HF2.out.mat.inj, HF2.out.mat.lg, HF2.out.mat.lr⟩
                have HC : ∀ q : Nat, Calls Tryz.prog 104 #[.slice (some ⟨gf, 0, none⟩) fs.length cf, .slice (some ⟨g, 0, none⟩) M.n M.n, .int .i64 s] (wr.drewN q) fun e w' => e = .returned (.int .i64 (pv : Nat)) ∧ w' = wr.drewN q := by
                  intro q
                  have hq : Below wr.heap.size wr (wr.drewN q) := below_drewN (Below.refl _ _) q
                  have := (place_ok (some ⟨gf, 0, none⟩) gf fs.length cf (fun i => fs.getD i 0) (w.heap.size + 1 + 1) g M.n rb D s (wr.drewN q) (fun _ => rfl) (fun i hi => by rw [hq.cell (p := ⟨gf, i, none⟩) (show gf < wr.heap.size by omega), hbm.cell (p := ⟨gf, i, none⟩) hgfl]; exact HNT2.out i hi) (fun i hi => HFS.out i hi) (HMq.below hq) hs (by omega) hhi).mono (fun e w' h => place_found hD HFS.out hs (by rw [HPS.out]; exact hxc.1) h)
                  rw [HPS.out, hxc.2] at this
                  exact this
                have HBi : Hid _ := hBi
                have HD : Hid (∀ j, j < k → (u11 : Value).ownBlock ≠ some (R j)) := hd
                have HRR : Hid _ := hr
                clear hBi hd hr hbw hbm HMq hxc
                go_wp2_with fail
                go_quiet ((go_at_call 104; exact Calls.quiet_of_same (HC _)))
                clear HC x0 x1 c0 y0 y1
                have hq : Below wr.heap.size wr (wr.drewN nq) := below_drewN (Below.refl _ _) nq
                have HBq : Hid (BuildMem W2 wo.heap.size ((wr.drewN nq).alloc (.cells #[.int .i64 (pv : Int)] 3)) va' vn (k + 1) k A R C X) := (HBi.out.below hq).below ((Below.refl _ _).alloc (Nat.le_refl _) _)
                have hna := (ownsRow_below HRR.out hq).alloc (.cells #[.int .i64 (pv : Int)] 3)
                have HRO : Hid (∀ j, j < k → R j < wr.heap.size) := fun j hj => ((HBi.out.rows j hj).lt (R j) rfl).2
                clear hq
                go_wp2_with (at_builtin; refine wpList_append_fresh _ rfl _ _ 24 rfl (wo.heap.size + 1) 3 i3 (.int .i64 0) 1 8 Tryz.underlying24 hi3 hz3 hz31 hz32 rfl (by decide) _ c (icells (X k) c) rfl hna ⟨wr.heap.size, 0, none⟩ 1 1 [.int .i64 (pv : Int)] rfl rfl (cell_one_new _ _ _) (by intro u hu; simp at hu; subst hu; rfl) (by decide) (by unfold maxLen; omega) (by omega) (by simp; omega) ?_; intro g2 cap2 w2 hown hgr hfr; have HO : Hid _ := hown; have HG : Hid _ := hgr; have HFR : Hid _ := hfr; clear hown hgr hfr)
                go_roundw
                case rel =>
                  have ho := HO.out
                  rw [show icells (X k) c ++ [.int .i64 (pv : Int)] = icells (X k) (c + 1) by rw [icells_succ, HPV.out]] at ho
                  refine ⟨c + 1, by omega, by go_num, HBq.out.grown hna HD.out HG.out, ho, ?_⟩
                  intro j hj e
                  simp only [Value.ownBlock, Option.some.injEq] at e
                  rcases HFR.out with h' | h'
                  · exact HD.out j hj (by subst e; exact h')
                  · have := HRO.out j hj; simp at h'; omega
                case measure => simp [intOf]; omega
              · have he : c = 8 := by omega
                subst he
                obtain ⟨ar, cr', rfl, har⟩ := ownsRow_shape hr
                obtain ⟨gr, rfl, _⟩ := har (by omega)
                obtain ⟨y0, y1, _, _⟩ := cell_two hBi.two.blk
                have HBi : Hid (BuildMem W2 wo.heap.size (wr.alloc (.cells #[.slice (some ⟨gr, 0, none⟩) 8 cr'] 24)) va' vn (k + 1) k A R C X) := hBi.below ((Below.refl _ _).alloc (Nat.le_refl _) _)
                have hna := HBi.out.two.own1
                have HR : Hid ((wr.alloc (.cells #[.slice (some ⟨gr, 0, none⟩) 8 cr'] 24)).ownsRow (wo.heap.size + 1) 3 1 (.slice (some ⟨gr, 0, none⟩) 8 cr') 8 (icells (X k) 8)) := hr.alloc _
                clear hBi hd hr hbw har
                go_wp2_with (at_builtin; refine wpList_append_fresh _ rfl _ _ 39 rfl (wo.heap.size + 1) 24 iR (.slice none 0 0) 1 24 Tryz.underlying39 hiR hzR hzR1 hzR2 rfl (by decide) _ k (scells R C k) rfl hna ⟨wr.heap.size, 0, none⟩ 1 1 [.slice (some ⟨gr, 0, none⟩) 8 cr'] rfl rfl (cell_one_new _ _ _) (by intro u hu; simp at hu; subst hu; rfl) (by decide) (by unfold maxLen; omega) (by omega) (by simp; omega) ?_; intro g2 cap2 w2 hown hgr hfr; obtain ⟨f0', f1', f2', f3'⟩ := cell_two (HBi.out.two.grown1 hgr); have HO : Hid _ := hown; have HG : Hid _ := hgr; have HFR : Hid _ := hfr; clear hown hgr hfr)
                go_roundw
                case rel =>
                  exact ⟨k + 1, _, _, _, _, by omega, by go_num, HBi.out.nxt HR.out HO.out HG.out HFR.out⟩
                case measure => simp [intOf]; omega
        · have he : k = fs.length := by omega
          subst he
          obtain ⟨U, rfl, rfl, hT, hFr⟩ := hB.done (N := quotTab M ps) (by omega) hpl HQA.out (fun i c hi hc => by rw [HX.out])
          have hq : wr.heap[w.heap.size + 1]? = some (.cells #[.slice none 0 0, .slice none 0 0] 41 (0, 0)) := (hbm.block _ (by omega)).trans d2
          obtain ⟨q0, q1, p0, p1⟩ := cell_two hq
          have HT : Hid (TabAt wr U (quotTab M ps)) := hT
          have HB : Hid _ := hbw
          clear hB hT
          go_wp2_with fail
          obtain ⟨r1, r2, r3⟩ := res_two (u := .slice (some ⟨U.ba, U.oa, none⟩) fs.length U.ca) (v := .slice (some ⟨U.bn, U.on, none⟩) fs.length U.cn) hq
          refine bodyPost_ret (v := .agg #[.slice (some ⟨U.ba, U.oa, none⟩) fs.length U.ca, .slice (some ⟨U.bn, U.on, none⟩) fs.length U.cn]) (by simp [results, Tryz.results67, go_sem, r1, r2]) rfl ?_
          have hn : (quotTab M ps).n = fs.length := hpl
          have hF' : U.From (wo.heap.size + 1) (quotTab M ps).n := by rw [hn]; exact hFr
          refine ⟨below_res HB.out (by omega) _ _, U, quotTab M ps, HL.out, by rw [hn], HT.out.res hF' (by omega) _ _, hF'.mono (by omega)⟩
end Go.Proofs.YtpngikmcjkjdaaaGreatDoor
