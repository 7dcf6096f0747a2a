import Derived.Test.YtpngikmcjkjdaaaGreatDoorPairM
namespace Go.Proofs.YtpngikmcjkjdaaaGreatDoor
open Go.RowKit
set_option linter.unusedVariables false

set_option maxRecDepth 20000 in
set_option maxHeartbeats 1000000 in
theorem tjoined_ok (a b : Bool) (how : Int) (w : World) (h0 : 0 ≤ how) (h1 : how ≤ 3) :
    Calls Tryz.prog 158 #[.bool a, .bool b, .int .i64 how] w fun e w' => e = .returned (.bool (joinB how a b)) ∧ w' = w := by
  rcases (show how = 0 ∨ how = 1 ∨ how = 2 ∨ how = 3 by omega) with rfl | rfl | rfl | rfl <;> cases a <;> cases b
  all_goals
    go_enter Tryz.func158, Tryz.ntmps158
    go_wp2
    go_ret
    exact ⟨rfl, rfl⟩

theorem Tryz.infoP : (Tryz.prog.info? 204).map (fun i => (i.zero, i.size, i.bytes)) = some (some (.agg #[.int .i64 0, .int .i64 0]), 2, 16) := by kernel_rfl

/-- The cells of the wide table's rows. -/
def rcells (X : Nat → Nat → Nat) : Nat → List Value
  | 0 => []
  | k + 1 => rcells X k ++ (List.range 8).map fun c => .int .i64 ((X k c : Nat) : Int)
def acells (A : Nat → Bool) : Nat → List Value
  | 0 => []
  | k + 1 => acells A k ++ [.bool (A k)]
theorem acells_new {M N : Tab} {how : Int} {ps : List Nat} {q k : Nat} (hk : k ≤ ps.length) : acells (pairTab M N how (ps ++ [q])).acc k = acells (pairTab M N how ps).acc k := by
  induction k with
  | zero => rfl
  | succ k ih =>
    simp only [acells]
    rw [ih (by omega)]
    simp only [pairTab]
    rw [getD_app _ _ _ (by omega)]
theorem rcells_congr {X Y : Nat → Nat → Nat} {k : Nat} (h : ∀ i c, i < k → c < 8 → X i c = Y i c) : rcells X k = rcells Y k := by
  induction k with
  | zero => rfl
  | succ k ih =>
    simp only [rcells]
    rw [ih (fun i c hi hc => h i c (by omega) hc)]
    congr 1
    apply List.map_congr_left
    intro c hc
    rw [h k c (by omega) (by simpa using hc)]
theorem pn_new {good : Nat → Prop} {S : Nat → Nat → Nat} {ps : List Nat} {p q : Nat} (h : PRel good S ps p) (i c : Nat) (hc : c < 8) (hr : 8 * i + c < p) : pn S (ps ++ [q]) i c = pn S ps i c := by
  have hc := h.clo _ hr
  rw [show (8 * i + c) / 8 = i by omega, show (8 * i + c) % 8 = c by omega] at hc
  simp only [pn]
  rw [getD_app _ _ _ hc.1, List.idxOf_append, if_pos hc.2]
theorem acells_len (A : Nat → Bool) (k : Nat) : (acells A k).length = k := by
  induction k with
  | zero => rfl
  | succ k ih => simp [acells, ih]
theorem rcells_len (X : Nat → Nat → Nat) (k : Nat) : (rcells X k).length = k * 8 := by
  induction k with
  | zero => rfl
  | succ k ih => simp only [rcells, List.length_append, ih, List.length_map, List.length_range]; omega
theorem acells_at (A : Nat → Bool) (k i : Nat) (hi : i < k) : (acells A k)[i]? = some (.bool (A i)) := by
  induction k with
  | zero => omega
  | succ k ih =>
    simp only [acells]
    by_cases e : i = k
    · subst e; rw [List.getElem?_append_right (by rw [acells_len]; exact Nat.le_refl _), acells_len]; simp
    · rw [List.getElem?_append_left (by rw [acells_len]; omega)]; exact ih (by omega)
theorem rcells_at (X : Nat → Nat → Nat) (k i c : Nat) (hi : i < k) (hc : c < 8) : (rcells X k)[i * 8 + c]? = some (.int .i64 ((X i c : Nat) : Int)) := by
  induction k with
  | zero => omega
  | succ k ih =>
    simp only [rcells]
    by_cases e : i = k
    · subst e
      rw [List.getElem?_append_right (by rw [rcells_len]; omega), rcells_len, show i * 8 + c - i * 8 = c by omega]
      simp [hc]
    · rw [List.getElem?_append_left (by rw [rcells_len]; omega)]; exact ih (by omega)
theorem zs_row {w : World} {b t : Nat} (h : w.heap[b]? = some (.cells ((zs 1600).setIfInBounds 0 (.int .i64 1)) t (0, 0))) : w.rowIs b t 1600 (fun q => .int .i64 (metv [0] q : Nat)) := by
  refine ⟨_, h, by simp [zs], fun i hi => ?_⟩
  by_cases e : i = 0
  · subst e; simp [zs, metv]
  · rw [Array.getElem?_setIfInBounds]; simp [zs, metv, e, hi]; omega

set_option maxRecDepth 20000 in
set_option maxHeartbeats 2000000 in
theorem pairUp_ok (V U : Lay) (M N : Tab) (how : Int) (w : World) (hM : M.Ok) (hN : N.Ok) (hV : TabAt w V M) (hU : TabAt w U N) (hh0 : 0 ≤ how) (hh1 : how ≤ 3) :
    Calls Tryz.prog 124 #[.agg #[.slice (some ⟨V.ba, V.oa, none⟩) M.n V.ca, .slice (some ⟨V.bn, V.on, none⟩) M.n V.cn], .agg #[.slice (some ⟨U.ba, U.oa, none⟩) N.n U.ca, .slice (some ⟨U.bn, U.on, none⟩) N.n U.cn], .int .i64 how] w
      fun e w' => Below w.heap.size w w' ∧ ∃ ps gw ga ca gn cn, PRel (goodQ M N) (succQ M N) ps (8 * ps.length) ∧ e = .returned (.pointer (some ⟨gw, 0, none⟩)) ∧ WideAt w' gw ga ca gn cn (pairTab M N how ps) := by
  have hz := zero_met
  have l1 := hM.lo
  have l2 := hM.hi
  have l3 := hN.lo
  have l4 := hN.hi
  obtain ⟨i0, hi, hz0, hz1, hz2⟩ := info_parts Tryz.infoP
  obtain ⟨W0, hW0⟩ : ∃ W, W = (((w.alloc (.cells #[.slice (some ⟨V.ba, V.oa, none⟩) M.n V.ca, .slice (some ⟨V.bn, V.on, none⟩) M.n V.cn] 41)).alloc (.cells #[.slice (some ⟨U.ba, U.oa, none⟩) N.n U.ca, .slice (some ⟨U.bn, U.on, none⟩) N.n U.cn] 41)).alloc
      (.cells #[.slice none 0 0, .slice none 0 0] 169)).alloc (.cells (zs 1600) 202) := ⟨_, rfl⟩
  have BW0 : Below w.heap.size w W0 := by
    rw [hW0]; exact ((((Below.refl _ _).alloc (Nat.le_refl _) _).alloc (by simp) _).alloc (by simp; omega) _).alloc (by simp; omega) _
  have hW0s : W0.heap.size = w.heap.size + 1 + 1 + 1 + 1 := by rw [hW0]; simp
  have b0 : W0.heap[w.heap.size]? = some (.cells #[.slice (some ⟨V.ba, V.oa, none⟩) M.n V.ca, .slice (some ⟨V.bn, V.on, none⟩) M.n V.cn] 41 (0, 0)) := by rw [hW0]; exact heap_at_old (heap_at_old (heap_at_old (heap_at_new (by simp))))
  have b1 : W0.heap[w.heap.size + 1]? = some (.cells #[.slice (some ⟨U.ba, U.oa, none⟩) N.n U.ca, .slice (some ⟨U.bn, U.on, none⟩) N.n U.cn] 41 (0, 0)) := by rw [hW0]; exact heap_at_old (heap_at_old (heap_at_new (by simp)))
  have b3 : W0.heap[w.heap.size + 1 + 1]? = some (.cells #[.slice none 0 0, .slice none 0 0] 169 (0, 0)) := by rw [hW0]; exact heap_at_old (heap_at_new (by simp))
  have b4 : W0.heap[w.heap.size + 1 + 1 + 1]? = some (.cells (zs 1600) 202 (0, 0)) := by rw [hW0]; exact heap_at_new (by simp)
  have r4 : W0.rowIs (w.heap.size + 1 + 1 + 1) 202 1600 (fun _ => .int .i64 0) := ⟨_, b4, by simp [zs], fun i hi => by simp [zs, hi]⟩
  have s0 := r4.cell (i := 0) (by omega)
  have s1 := r4.frozen 0
  have R4 : Hid (W0.rowIs (w.heap.size + 1 + 1 + 1) 202 1600 (fun _ => .int .i64 0)) := r4
  clear r4 b4
  go_enter Tryz.func124, Tryz.ntmps124
  go_upto_region 3 with fail
  rw [← hW0]
  clear hW0 hz
  go_wp2_with fail
  clear s0 s1
  have P0 : PairMem W0 w.heap.size ((W0.setCell ⟨w.heap.size + 1 + 1 + 1, 0, none⟩ (.int .i64 1)).alloc (.cells #[.int .i64 0, .int .i64 0] 204)) [0] (.slice (some ⟨w.heap.size + 1 + 1 + 1 + 1, 0, none⟩) 1 1) (.slice none 0 0) (.slice none 0 0) 0 0 [] [] := by
    have hs : (W0.setCell ⟨w.heap.size + 1 + 1 + 1, 0, none⟩ (.int .i64 1)).heap.size = w.heap.size + 1 + 1 + 1 + 1 := by simp [hW0s]
    refine ⟨((Below.refl _ _).setCell (p := ⟨w.heap.size + 1 + 1 + 1, 0, none⟩) (by simp) _).alloc (by omega) _, heap_at_old (heap_set_other b3 (by simp)), ?_, World.ownsRow_nil _ _ _ _, World.ownsRow_nil _ _ _ _, ?_⟩
    · refine ((R4.out.set 0 _).alloc _).congr (fun x _ => ?_)
      by_cases e : x = 0
      · subst e; simp [metv]
      · simp [metv, e]
    · have := World.ownsRow_lit (base := w.heap.size + 1 + 1 + 1 + 1) (e := 204) (size := 2) (W0.setCell ⟨w.heap.size + 1 + 1 + 1, 0, none⟩ (.int .i64 1)) #[.int .i64 0, .int .i64 0] 1 (by omega) (by decide) rfl
      rw [hs] at this
      exact this
  clear R4 b3
  go_loopw [9, 10] (fun vp at' wr => ∃ k : Nat, ∃ ps va vn, k ≤ ps.length ∧ at' = .int .i64 k ∧ PRel (goodQ M N) (succQ M N) ps (8 * k) ∧
      PairMem W0 w.heap.size wr ps vp va vn k k (acells (pairTab M N how ps).acc k) (rcells (pn (succQ M N) ps) k))
    (fun _ at' _ => 1600 - (intOf at').toNat)
  case atStart => exact ⟨0, [0], _, _, by simp, rfl, PRel.start ⟨by simp; omega, by simp; omega⟩, P0⟩
  case round =>
    obtain ⟨k, ps, va, vn, hk, rfl, hR, hP⟩ := hrel
    clear P0
    have hbd := hR.bound hN
    have hb16 : M.n * N.n ≤ 1600 := by have := Nat.mul_le_mul l2 l4; omega
    have hbW := hP.blw
    have hbw : Below w.heap.size w wr := BW0.trans (hbW.mono (by omega))
    obtain ⟨x0, x1, _, _⟩ := cell_two ((hbW.block _ (by omega)).trans b0)
    obtain ⟨x2, x3, _, _⟩ := cell_two ((hbW.block _ (by omega)).trans b1)
    obtain ⟨ap, cp, rfl, hap⟩ := ownsRow_shape hP.own2
    by_cases hlt : k < ps.length
    · obtain ⟨gp, rfl, hcp⟩ := hap (by omega)
      have hpk := pcells_at ps k hlt
      have y0 := (hcp (k * 2) (by omega)).trans hpk.1
      have y1 := (hcp (k * 2 + 1) (by omega)).trans hpk.2
      obtain ⟨q0, HQ⟩ : ∃ q0, Hid (ps.getD k 0 = q0) := ⟨_, rfl⟩
      rw [HQ.out] at y0 y1
      have hgq : goodQ M N q0 := by rw [← HQ.out]; exact hR.inr _ (getD_mem ps k hlt)
      obtain ⟨i, Hi⟩ : ∃ i, Hid (q0 / 40 = i) := ⟨_, rfl⟩
      obtain ⟨j, Hj⟩ : ∃ j, Hid (q0 % 40 = j) := ⟨_, rfl⟩
      rw [Hi.out] at y0
      rw [Hj.out] at y1
      have hin : i < M.n := by rw [← Hi.out]; exact hgq.1
      have hjn : j < N.n := by rw [← Hj.out]; exact hgq.2
      have HP : Hid (PairMem W0 w.heap.size wr ps (.slice (some ⟨gp, 0, none⟩) ps.length cp) va vn k k (acells (pairTab M N how ps).acc k) (rcells (pn (succQ M N) ps) k)) := hP
      have HR : Hid (PRel (goodQ M N) (succQ M N) ps (8 * k)) := hR
      clear hP hR hap hcp hpk
      go_wp2_with fail
      clear y0 y1 x0 x1 x2 x3 hbW hbd
      rename World => wo
      have HS : w.heap.size + 1 + 1 + 1 + 1 ≤ wo.heap.size := by have := HP.out.met.lt; omega
      have R0 : RoundMem W0 w.heap.size wo.heap.size ((wo.alloc (.cells #[.int .i64 (i : Int), .int .i64 (j : Int)] 204)).alloc (.cells #[.int .i64 0, .int .i64 0, .int .i64 0, .int .i64 0, .int .i64 0, .int .i64 0, .int .i64 0, .int .i64 0] 174))
          ps (.slice (some ⟨gp, 0, none⟩) ps.length cp) va vn k (acells (pairTab M N how ps).acc k) (rcells (pn (succQ M N) ps) k) i j (fun _ => 0) := by
        have hp := HP.out
        refine ⟨(hp.alloc _).alloc _, heap_at_old (heap_at_new rfl), ?_, HS, fun g e => ?_, fun g e => (hp.own0.lt g e).2, fun g e => (hp.own1.lt g e).2⟩
        · refine ⟨_, heap_at_new (by simp), rfl, fun x hx => ?_⟩
          rcases (show x = 0 ∨ x = 1 ∨ x = 2 ∨ x = 3 ∨ x = 4 ∨ x = 5 ∨ x = 6 ∨ x = 7 by omega) with rfl | rfl | rfl | rfl | rfl | rfl | rfl | rfl <;> rfl
        · have := (hp.own2.lt g e).2; omega
      go_loopw [9, 13] (fun vp c' wi => ∃ c : Nat, ∃ ps, c ≤ 8 ∧ c' = .int .i64 c ∧ k < ps.length ∧ Hid (ps.getD k 0 = q0) ∧ PRel (goodQ M N) (succQ M N) ps (8 * k + c) ∧
          RoundMem W0 w.heap.size wo.heap.size wi ps vp va vn k (acells (pairTab M N how ps).acc k) (rcells (pn (succQ M N) ps) k) i j (fun c' => if c' < c then pn (succQ M N) ps k c' else 0))
        (fun _ c' _ => 8 - (intOf c').toNat)
      case atStart => exact ⟨0, ps, by omega, rfl, hlt, HQ, HR.out, by simpa using R0⟩
      case round =>
        clear R0 HP HR HQ hlt
        obtain ⟨c, qs, hc, rfl, hlt, HQ, hR, hP⟩ := hrel
        have hbd := hR.bound hN
        have hbW := hP.mem.blw
        have hbw : Below w.heap.size w wr := BW0.trans (hbW.mono (by omega))
        obtain ⟨x0, x1, _, _⟩ := cell_two ((hbW.block _ (by omega)).trans b0)
        obtain ⟨x2, x3, _, _⟩ := cell_two ((hbW.block _ (by omega)).trans b1)
        obtain ⟨e0, e1, _, _⟩ := cell_two hP.here
        obtain ⟨ap, cp, rfl, hap⟩ := ownsRow_shape hP.mem.own2
        obtain ⟨gq, rfl, hcp⟩ := hap (by omega)
        by_cases hl8 : c < 8
        · have y0 := (hV.below hbw).row i hin
          have y1 := (hV.below hbw).cel i c hin hl8
          have y2 := (hU.below hbw).row j hjn
          have y3 := (hU.below hbw).cel j c hjn hl8
          have n1 := hM.nx i c hin hl8
          have n2 := hN.nx j c hjn hl8
          obtain ⟨one, H1⟩ : ∃ x, Hid (M.nxt i c = x) := ⟨_, rfl⟩
          obtain ⟨two, H2⟩ : ∃ x, Hid (N.nxt j c = x) := ⟨_, rfl⟩
          rw [H1.out] at y1 n1
          rw [H2.out] at y3 n2
          have o1 : one < 40 := by omega
          have o2 : two < 40 := by omega
          have HS1 : Hid (succQ M N (qs.getD ((8 * k + c) / 8) 0) ((8 * k + c) % 8) = one * 40 + two) := by
            unfold Hid succQ; rw [show (8 * k + c) / 8 = k by omega, show (8 * k + c) % 8 = c by omega, HQ.out, Hi.out, Hj.out, H1.out, H2.out]
          have m0 := hP.mem.met.cell (i := one * 40 + two) (by omega)
          have m1 := hP.mem.met.frozen (one * 40 + two)
          have r0 := hP.rw.cell hl8
          have r1 := hP.rw.frozen c
          simp only [Nat.lt_irrefl, if_false] at r0
          have HP : Hid (RoundMem W0 w.heap.size wo.heap.size wr qs (.slice (some ⟨gq, 0, none⟩) qs.length cp) va vn k (acells (pairTab M N how qs).acc k) (rcells (pn (succQ M N) qs) k) i j (fun c' => if c' < c then pn (succQ M N) qs k c' else 0)) := hP
          have HR : Hid (PRel (goodQ M N) (succQ M N) qs (8 * k + c)) := hR
          have HH := heap_lt hP.here
          have HH1 := hP.rw.lt
          clear hP hR hap hcp hV hU hbW hbw
          by_cases hmem : one * 40 + two ∈ qs
          · have hmv : metv qs (one * 40 + two) = qs.idxOf (one * 40 + two) + 1 := by simp [metv, hmem]
            have hil := List.idxOf_lt_length_of_mem hmem
            rw [hmv] at m0
            obtain ⟨ix, HX⟩ : ∃ x, Hid (qs.idxOf (one * 40 + two) = x) := ⟨_, rfl⟩
            rw [HX.out] at m0 hil
            have hpn : Hid (pn (succQ M N) qs k c = ix) := by
              have := HS1.out
              rw [show (8 * k + c) / 8 = k by omega, show (8 * k + c) % 8 = c by omega] at this
              unfold Hid pn; rw [this]; exact HX.out
            have HM : Hid (one * 40 + two ∈ qs) := hmem
            clear hmem hmv
            have mb : (((ix + 1 : Nat) : Int) == 0) = false := by simp; omega
            go_wp2_with fail
            go_roundw
            case rel =>
              have hm : succQ M N (qs.getD ((8 * k + c) / 8) 0) ((8 * k + c) % 8) ∈ qs := by rw [HS1.out]; exact HM.out
              have hn := (HP.out.old (c := c) (v := ix)).rcongr (r' := fun c' => if c' < c + 1 then pn (succQ M N) qs k c' else 0) (fun x _ => by
                by_cases e : x = c
                · subst e; simp [hpn.out]
                · by_cases h' : x < c
                  · simp only [e, h', if_false, if_true]; rw [if_pos (by omega)]
                  · simp only [e, h', if_false]; rw [if_neg (by omega)])
              exact ⟨c + 1, qs, by omega, by go_num, hlt, HQ, HR.out.old (by omega) hm, hn⟩
            case measure => simp [intOf]; omega
          · have hmv : metv qs (one * 40 + two) = 0 := by simp [metv, hmem]
            rw [hmv] at m0
            have HM : Hid (one * 40 + two ∉ qs) := hmem
            clear hmem hmv
            have HPa : Hid (RoundMem W0 w.heap.size wo.heap.size (wr.alloc (.cells #[.int .i64 (one : Int), .int .i64 (two : Int)] 204)) qs (.slice (some ⟨gq, 0, none⟩) qs.length cp) va vn k (acells (pairTab M N how qs).acc k) (rcells (pn (succQ M N) qs) k) i j (fun c' => if c' < c then pn (succQ M N) qs k c' else 0)) := HP.out.alloc _
            have hna := HPa.out.mem.own2
            have hbo : w.heap.size + 1 + 1 + 1 + 1 ≤ (wr.alloc (.cells #[.int .i64 (one : Int), .int .i64 (two : Int)] 204)).heap.size := by simp; omega
            have hcells : Hid (pcells qs ++ [.int .i64 (one : Int), .int .i64 (two : Int)] = pcells (qs ++ [one * 40 + two])) := by
              have := pcells_snoc qs (one * 40 + two)
              rw [show (one * 40 + two) / 40 = one by omega, show (one * 40 + two) % 40 = two by omega] at this
              exact this
            have HG : ∀ g cap w2, w2.ownsRow (w.heap.size + 1 + 1 + 1 + 1) 204 2 (.slice (some ⟨g, 0, none⟩) (qs.length + 1) cap) (qs.length + 1) (pcells qs ++ [.int .i64 (one : Int), .int .i64 (two : Int)]) →
                (wr.alloc (.cells #[.int .i64 (one : Int), .int .i64 (two : Int)] 204)).grownBy w2 (Value.slice (some ⟨gq, 0, none⟩) qs.length cp).ownBlock → ((Value.slice (some ⟨gq, 0, none⟩) qs.length cp).ownBlock = some g ∨ g = (wr.alloc (.cells #[.int .i64 (one : Int), .int .i64 (two : Int)] 204)).heap.size) →
                w2.cell? ⟨w.heap.size + 1 + 1 + 1, one * 40 + two, none⟩ = some (.int .i64 0) ∧ w2.frozen? ⟨w.heap.size + 1 + 1 + 1, one * 40 + two, none⟩ = false ∧ w2.cell? ⟨wo.heap.size + 1, c, none⟩ = some (.int .i64 0) ∧ w2.frozen? ⟨wo.heap.size + 1, c, none⟩ = false ∧
                Hid (RoundMem W0 w.heap.size wo.heap.size ((w2.setCell ⟨w.heap.size + 1 + 1 + 1, one * 40 + two, none⟩ (.int .i64 ((qs.length : Int) + 1))).setCell ⟨wo.heap.size + 1, c, none⟩ (.int .i64 (qs.length : Int))) (qs ++ [one * 40 + two]) (.slice (some ⟨g, 0, none⟩) (qs.length + 1) cap) va vn k (acells (pairTab M N how qs).acc k) (rcells (pn (succQ M N) qs) k) i j (fun x => if x = c then qs.length else if x < c then pn (succQ M N) qs k x else 0)) := by
              intro g cap w2 ho hg hf
              rw [hcells.out] at ho
              obtain ⟨_, _, g3, _, _, _, g7, _⟩ := HPa.out.grown ho hg hf
              refine ⟨?_, g3.frozen _, ?_, g7.frozen _, HPa.out.new HM.out ho hg hf⟩
              · rw [g3.cell (by omega)]; simp [metv, HM.out]
              · rw [g7.cell hl8]; simp
            have d1 : ¬ wo.heap.size + 1 = w.heap.size + 1 + 1 + 1 := by omega
            have d2 : ¬ wo.heap.size = w.heap.size + 1 + 1 := by omega
            have d3 : ¬ w.heap.size + 1 + 1 = wo.heap.size := by omega
            go_wp2_with (at_builtin; refine wpList_append_fresh _ rfl _ _ 205 rfl (w.heap.size + 1 + 1 + 1 + 1) 204 i0 (.agg #[.int .i64 0, .int .i64 0]) 2 16 Tryz.underlying205 hi hz0 hz1 hz2 rfl (by decide) _ qs.length (pcells qs) rfl hna ⟨wr.heap.size, 0, none⟩ 1 1 [.int .i64 (one : Int), .int .i64 (two : Int)] rfl rfl (cell_two_new _ _ _ _) (by intro u hu; simp at hu; rcases hu with rfl | rfl <;> rfl) (by decide) (by unfold maxLen; omega) (by omega) hbo ?_; intro g cap w2 hown hgr hfr; obtain ⟨f0, f1, f2, f3, HN⟩ := HG g cap w2 hown hgr hfr)
            go_roundw
            case rel =>
              have hnm : succQ M N (qs.getD ((8 * k + c) / 8) 0) ((8 * k + c) % 8) ∉ qs := by rw [HS1.out]; exact HM.out
              have hgd : goodQ M N (succQ M N (qs.getD ((8 * k + c) / 8) 0) ((8 * k + c) % 8)) := by
                rw [show (8 * k + c) / 8 = k by omega, show (8 * k + c) % 8 = c by omega, HQ.out]; exact (goodQ_succ hM hN hgq hl8).1
              have hnew := HR.out.new (by omega) hnm hgd
              rw [HS1.out] at hnew
              have hpnew : pn (succQ M N) (qs ++ [one * 40 + two]) k c = qs.length := by
                have := HS1.out
                rw [show (8 * k + c) / 8 = k by omega, show (8 * k + c) % 8 = c by omega] at this
                simp only [pn]
                rw [getD_app _ _ _ hlt, this, List.idxOf_append, if_neg HM.out]; simp
              have hn := HN.out.rcongr (r' := fun c' => if c' < c + 1 then pn (succQ M N) (qs ++ [one * 40 + two]) k c' else 0) (fun x hx => by
                by_cases e : x = c
                · subst e; simp [hpnew]
                · by_cases h' : x < c
                  · simp only [e, h', if_false, if_true]; rw [if_pos (by omega), pn_new HR.out k x hx (by omega)]
                  · simp only [e, h', if_false]; rw [if_neg (by omega)])
              rw [← acells_new (M := M) (N := N) (how := how) (q := one * 40 + two) (by omega), ← rcells_congr (X := pn (succQ M N) (qs ++ [one * 40 + two])) (fun x c' hx hc' => pn_new HR.out x c' hc' (by omega))] at hn
              exact ⟨c + 1, qs ++ [one * 40 + two], by omega, by go_num, by simp; omega, by unfold Hid; rw [getD_app _ _ _ hlt]; exact HQ.out, hnew, hn⟩
            case measure => simp [intOf]; omega
        · have hc8 : c = 8 := by omega
          subst hc8
          have a0 := (hV.below hbw).acc i hin
          have a1 := (hU.below hbw).acc j hjn
          have HP : Hid (RoundMem W0 w.heap.size wo.heap.size wr qs (.slice (some ⟨gq, 0, none⟩) qs.length cp) va vn k (acells (pairTab M N how qs).acc k) (rcells (pn (succQ M N) qs) k) i j (fun c' => if c' < 8 then pn (succQ M N) qs k c' else 0)) := hP
          have HR : Hid (PRel (goodQ M N) (succQ M N) qs (8 * k + 8)) := hR
          clear hP hR hap hcp hbW hbw
          go_wp2_with fail
          go_quiet ((go_at_call 158; exact Calls.quiet_of_same (tjoined_ok _ _ _ _ hh0 hh1)))
          go_upto_region 20 with fail
          obtain ⟨W3, hW3⟩ : ∃ W3, W3 = wr.drewN nq := ⟨_, rfl⟩
          rw [← hW3]
          have HP3 : Hid (RoundMem W0 w.heap.size wo.heap.size W3 qs (.slice (some ⟨gq, 0, none⟩) qs.length cp) va vn k (acells (pairTab M N how qs).acc k) (rcells (pn (succQ M N) qs) k) i j (fun c' => if c' < 8 then pn (succQ M N) qs k c' else 0)) := by
            rw [hW3]; exact HP.out.drewN nq
          clear hW3 HP x0 x1 x2 x3 e0 e1 a0 a1
          have f2 := HP3.out.rw
          have c0 := f2.cell (i := 0) (by omega)
          have c1 := f2.cell (i := 1) (by omega)
          have c2 := f2.cell (i := 2) (by omega)
          have c3 := f2.cell (i := 3) (by omega)
          have c4 := f2.cell (i := 4) (by omega)
          have c5 := f2.cell (i := 5) (by omega)
          have c6 := f2.cell (i := 6) (by omega)
          have c7 := f2.cell (i := 7) (by omega)
          simp only [show (0 : Nat) < 8 from by decide, show (1 : Nat) < 8 from by decide, show (2 : Nat) < 8 from by decide, show (3 : Nat) < 8 from by decide, show (4 : Nat) < 8 from by decide, show (5 : Nat) < 8 from by decide, show (6 : Nat) < 8 from by decide, show (7 : Nat) < 8 from by decide, if_true] at c0 c1 c2 c3 c4 c5 c6 c7
          clear f2
          have HA := add_ok (w.heap.size + 1 + 1) (w.heap.size + 1 + 1 + 1 + 1) va vn k _ _ (joinB how (M.acc i) (N.acc j)) (pn (succQ M N) qs k) W3 HP3.out.mem.blk HP3.out.mem.own0 HP3.out.mem.own1 (by omega) (by have := HP3.out.mem.met.lt; omega) (by omega)
          unfold row8 at HA
          go_wp2_with fail
          refine HA.mono ?_
          rintro e w6 ⟨rfl, va', vn', f0, f1, f2, f3, _, _⟩
          have F1 : Hid _ := HP3.out.add f0 f1 f2 f3
          clear HA f0 f1 f2 f3 HP3 c0 c1 c2 c3 c4 c5 c6 c7
          go_wp2_with fail
          go_roundw
          case rel =>
            have f1 := F1.out
            have ea : acells (pairTab M N how qs).acc k ++ [.bool (joinB how (M.acc i) (N.acc j))] = acells (pairTab M N how qs).acc (k + 1) := by
              simp only [acells, pairTab]; rw [HQ.out, Hi.out, Hj.out]
            have er : rcells (pn (succQ M N) qs) k ++ [(.int .i64 ((pn (succQ M N) qs k 0 : Nat) : Int)), (.int .i64 ((pn (succQ M N) qs k 1 : Nat) : Int)), (.int .i64 ((pn (succQ M N) qs k 2 : Nat) : Int)), (.int .i64 ((pn (succQ M N) qs k 3 : Nat) : Int)), (.int .i64 ((pn (succQ M N) qs k 4 : Nat) : Int)), (.int .i64 ((pn (succQ M N) qs k 5 : Nat) : Int)), (.int .i64 ((pn (succQ M N) qs k 6 : Nat) : Int)), (.int .i64 ((pn (succQ M N) qs k 7 : Nat) : Int))] = rcells (pn (succQ M N) qs) (k + 1) := by
              simp only [rcells]; rfl
            rw [ea, er] at f1
            exact ⟨k + 1, qs, _, _, by omega, by go_num, by rw [show 8 * (k + 1) = 8 * k + 8 by omega]; exact HR.out, f1⟩
          case measure => simp [intOf]; omega
    · have he : k = ps.length := by omega
      subst he
      obtain ⟨y0, y1, _, _⟩ := cell_two hP.blk
      obtain ⟨aa, ca, rfl, haa⟩ := ownsRow_shape hP.own0
      obtain ⟨an, cn, rfl, han⟩ := ownsRow_shape hP.own1
      obtain ⟨ga, rfl, _⟩ := haa hR.len
      obtain ⟨gn, rfl, _⟩ := han hR.len
      have HP : Hid _ := hP
      have HR : Hid (PRel (goodQ M N) (succQ M N) ps (8 * ps.length)) := hR
      have HY0 : Hid _ := y0
      have HY1 : Hid _ := y1
      clear hP hR hap y0 y1
      go_wp2_with fail
      go_ret
      have hp := HP.out
      refine ⟨hbw, ps, w.heap.size + 1 + 1, ga, ca, gn, cn, HR.out, rfl, ⟨HY0.out, HY1.out, fun x hx => ?_, fun x c hx hc => ?_⟩⟩
      · have hx' : x < ps.length := hx
        rw [hp.own0.cellAt x (by omega)]
        exact acells_at _ _ _ hx'
      · have hx' : x < ps.length := hx
        rw [hp.own1.cellAt (x * 8 + c) (by omega)]
        exact rcells_at _ _ _ _ hx' hc
end Go.Proofs.YtpngikmcjkjdaaaGreatDoor
