import Derived.Test.YtpngikmcjkjdaaaGreatDoorBookW
namespace Go.Proofs.YtpngikmcjkjdaaaGreatDoor
open Go.RowKit
set_option linter.unusedVariables false
set_option linter.unusedSimpArgs false

theorem PowTab.touch {S : Nat → Prop} {w w' : World} (h : PowTab w) (hT : Touch S w w') (hS : ∀ k, S k → 3 ≤ k) (hsz : 3 ≤ w.heap.size) : PowTab w' := by
  unfold PowTab Go.Lib.TabIs at h ⊢
  unfold World.var? at h ⊢
  obtain ⟨g, hg, hl⟩ := Option.map_eq_some_iff.1 powGlobal
  have hl : g < 3 := of_decide_eq_true hl
  rw [hg] at h ⊢
  simp only [Option.bind_some] at h ⊢
  rw [hT.block g (by omega) (fun e => by have := hS g e; omega)]
  exact h
theorem touch_then {S : Nat → Prop} {w w1 w2 : World} (h : Touch S w w1) (hb : Below w1.heap.size w1 w2) : Touch S w w2 :=
  ⟨hb.os.trans h.os, hb.tape.trans h.tape, hb.output.trans h.output, Nat.le_trans h.size hb.size, fun k hk hs => (hb.block k (Nat.lt_of_lt_of_le hk h.size)).trans (h.block k hk hs)⟩
theorem frozen_three {w : World} {b : Nat} {x y z : Value} {t : TypeId} (h : w.heap[b]? = some (.cells #[x, y, z] t (0, 0))) : w.frozen? ⟨b, 1, none⟩ = false ∧ w.frozen? ⟨b, 2, none⟩ = false := by
  simp [World.frozen?, h]
/-- The first i of m cells bear the mark. -/
def OverTo (w : World) (g m i k : Nat) : Prop := ∃ c : Array Value, w.heap[g]? = some (.cells c 9 (0, 0)) ∧ c.size = m ∧ ∀ j, j < i → c[j]? = some (.string (markB k))
theorem OverTo.block {w w' : World} {g m i k : Nat} (h : OverTo w g m i k) (e : w'.heap[g]? = w.heap[g]?) : OverTo w' g m i k := by
  obtain ⟨c, h1, h2⟩ := h; exact ⟨c, e.trans h1, h2⟩
theorem OverTo.put {w : World} {g m i k : Nat} (h : OverTo w g m i k) (hi : i < m) : OverTo (w.setCell ⟨g, i, none⟩ (.string (markB k))) g m (i + 1) k := by
  obtain ⟨c, h1, h2, h3⟩ := h
  refine ⟨c.setIfInBounds i (.string (markB k)), ?_, by simpa using h2, fun j hj => ?_⟩
  · simp [World.setCell, Array.getElem?_modify, h1]
  · rw [Array.getElem?_setIfInBounds]
    by_cases e : i = j
    · subst e; rw [if_pos rfl, if_pos (by omega)]
    · rw [if_neg e]; exact h3 j (by omega)
theorem OverTo.cell {w : World} {g m i k j : Nat} (h : OverTo w g m i k) (hj : j < m) : (∃ x, w.cell? ⟨g, j, none⟩ = some x) ∧ w.frozen? ⟨g, j, none⟩ = false := by
  obtain ⟨c, h1, h2, h3⟩ := h
  refine ⟨⟨c[j], ?_⟩, by simp [World.frozen?, h1]⟩
  simp [World.cell?, h1, h2, hj]

set_option maxRecDepth 20000 in
set_option maxHeartbeats 2000000 in
theorem over_ok (w : World) (g n cap k : Nat) (cur : Array Value) (hg : w.heap[g]? = some (.cells cur 9 (0, 0))) (hcur : cur.size = cap) (hn : n ≤ cap) (hcap : cap ≤ maxLen) (hk : k ≤ 4398046511104) (h3 : 3 ≤ g) (hsz : 3 ≤ w.heap.size) (ht : PowTab w) :
    Calls Tryz.prog 91 #[.slice (some ⟨g, 0, none⟩) n cap, .int .i64 (k : Int)] w fun e w' => e = .returned (.slice (some ⟨g, 0, none⟩) cap cap) ∧ w'.rowIs g 9 cap (fun _ => .string (markB k)) ∧ Touch (fun j => j = g) w w' := by
  unfold maxLen at hcap
  go_enter Tryz.func91, Tryz.ntmps91
  go_wp2_with fail
  go_loopw [6] (fun i' wr => ∃ i : Nat, i ≤ cap ∧ i' = .int .i64 (i : Int) ∧ OverTo wr g cap i k ∧ Touch (fun j => j = g) w wr) (fun i' _ => cap - (intOf i').toNat)
  case atStart => exact ⟨0, by omega, rfl, ⟨cur, hg, hcur, fun j hj => by omega⟩, Touch.refl _ _⟩
  case round =>
    obtain ⟨i, hi, rfl, ho, hT⟩ := hrel
    by_cases hlt : i < cap
    · have q1 : (i : Int) < (cap : Int) := by omega
      have HM := mark_ok k hk wr (ht.touch hT (fun j e => by omega) hsz)
      have HOO : Hid (OverTo wr g cap i k) := ho
      have HT : Hid (Touch (fun j => j = g) w wr) := hT
      have hwg : g < wr.heap.size := by obtain ⟨c, h1, _⟩ := ho; exact heap_lt h1
      have HCE : ∀ w2, Below wr.heap.size wr w2 → (∃ x, w2.cell? ⟨g, i, none⟩ = some x) ∧ w2.frozen? ⟨g, i, none⟩ = false := fun w2 hb => (ho.block (hb.block g hwg)).cell hlt
      clear ho hT ht
      go_wp2_with (go_at_call 24; refine HM.mono ?_; rintro e w2 ⟨rfl, hb2⟩; obtain ⟨⟨x, cx⟩, fx⟩ := HCE w2 hb2; have HB2 : Hid (Below wr.heap.size wr w2) := hb2; clear hb2 HCE)
      go_roundw
      case rel =>
        refine ⟨i + 1, by omega, by go_num, (HOO.out.block (HB2.out.block g hwg)).put hlt, ?_⟩
        exact (touch_then HT.out HB2.out).set ⟨g, i, none⟩ _ (.inl rfl)
      case measure => simp [intOf]; omega
    · have e : i = cap := by omega
      have q1 : ¬ (i : Int) < (cap : Int) := by omega
      have HOO : Hid (OverTo wr g cap i k) := ho
      have HT : Hid (Touch (fun j => j = g) w wr) := hT
      subst e
      clear ho hT ht
      go_wp2_with fail
      go_ret
      obtain ⟨c, h1, h2, h3⟩ := HOO.out
      exact ⟨rfl, ⟨c, h1, h2, h3⟩, HT.out⟩

set_option maxRecDepth 20000 in
set_option maxHeartbeats 1000000 in
theorem sameTexts_ok (w : World) (va vb : Value) (ba bb : Nat) (l : List ByteArray) (hl : l.length ≤ 100000) (ha : w.ownsRow ba 9 1 va l.length (strs l)) (hb : w.ownsRow bb 9 1 vb l.length (strs l)) :
    Calls Tryz.prog 90 #[va, vb] w fun e w' => e = .returned (.bool true) ∧ Below w.heap.size w w' := by
  obtain ⟨aa, ca, rfl, sa⟩ := ownsRow_shape ha
  obtain ⟨ab, cb, rfl, sb⟩ := ownsRow_shape hb
  obtain ⟨n, HN⟩ : ∃ n, Hid (l.length = n) := ⟨_, rfl⟩
  have hc : ∀ i, i < n → ∃ g1 g2 x, aa = some ⟨g1, 0, none⟩ ∧ ab = some ⟨g2, 0, none⟩ ∧ w.cell? ⟨g1, i, none⟩ = some (.string x) ∧ w.cell? ⟨g2, i, none⟩ = some (.string x) := by
    intro i hi
    rw [← HN.out] at hi
    obtain ⟨g1, e1, c1⟩ := sa (by omega)
    obtain ⟨g2, e2, c2⟩ := sb (by omega)
    have hx : (strs l)[i]? = some (.string l[i]) := by simp [strs, hi]
    exact ⟨g1, g2, l[i], e1, e2, (c1 i (by omega)).trans hx, (c2 i (by omega)).trans hx⟩
  rw [HN.out] at hl ⊢
  clear ha hb sa sb
  go_enter Tryz.func90, Tryz.ntmps90
  go_wp2_with fail
  go_loopw [5] (fun i' wr => ∃ i : Nat, i ≤ n ∧ i' = .int .i64 (i : Int) ∧ Below w.heap.size w wr) (fun i' _ => n - (intOf i').toNat)
  case atStart => exact ⟨0, by omega, rfl, Below.refl _ _⟩
  case round =>
    obtain ⟨i, hi, rfl, hb⟩ := hrel
    have HB : Hid (Below w.heap.size w wr) := hb
    by_cases hlt : i < n
    · obtain ⟨g1, g2, x, rfl, rfl, c1, c2⟩ := hc i hlt
      have d1 := ((bcell hb).1 g1 i (lt_of_cell c1)).trans c1
      have d2 := ((bcell hb).1 g2 i (lt_of_cell c2)).trans c2
      have q1 : (i : Int) < (n : Int) := by omega
      have q2 : (x.toList == x.toList) = true := by rw [beq_str]; simp
      clear hb c1 c2 hc
      go_wp2_with fail
      go_quiet (fail)
      go_wp2_with fail
      go_roundw
      case rel => exact ⟨i + 1, by omega, by go_num, below_drewN HB.out nq⟩
      case measure => simp [intOf]; omega
    · have q1 : ¬ (i : Int) < (n : Int) := by omega
      have e : i = n := by omega
      subst e
      clear hb hc
      go_wp2_with fail
      go_ret
      exact ⟨rfl, HB.out⟩

theorem Tryz.infoL : (Tryz.prog.info? 56).map (fun i => (i.zero, i.size, i.bytes)) = some (some (.slice none 0 0), 1, 24) := by kernel_rfl

set_option maxRecDepth 20000 in
set_option maxHeartbeats 2000000 in
theorem list_ok (Wo w0 w : World) (bw : Nat) (vts vbs vtx : Value) (hs : List Hd) (ps : List Bk) (xs : List Value) (lab : Nat → Nat) (h : WbAt Wo w0 bw vts vbs vtx hs ps xs lab) (hB : Below w0.heap.size w0 w) (hx : xs.length ≤ 4398046511104) (h3 : 3 ≤ bw) (ht : PowTab w0)
    (l : List ByteArray) (hl : l.length ≤ 100000) (hl0 : 0 < l.length) (v u : Value) (hv : w.ownsRow w0.heap.size 9 1 v l.length (strs l)) (hu : w.ownsRow w0.heap.size 9 1 u l.length (strs l)) :
    Calls Tryz.prog 51 #[.pointer (some ⟨bw, 0, none⟩), v, u] w fun e w' => e = .returned (.bool true) ∧ Touch (fun k => k = bw ∨ lab k ≠ 0) w0 w' ∧ ∃ vtx' x lab', WbAt Wo w' bw vts vbs vtx' hs ps (xs ++ [x]) lab' := by
  obtain ⟨i0, hi0, hz0, hz01, hz02⟩ := info_parts Tryz.infoL
  have hbs := heap_lt h.wd.blk
  have HS := sameTexts_ok w v u _ _ l hl hv hu
  rcases hv.2 with ⟨rfl, e⟩ | ⟨g, cap, cur, rfl, hg0, hg, hn, hcap, hcs, _⟩
  · omega
  rw [Nat.mul_one] at hcs
  have hws := hB.size
  have HOV : ∀ w1, Below w.heap.size w w1 → Calls Tryz.prog 91 #[.slice (some ⟨g, 0, none⟩) l.length cap, .int .i64 (xs.length : Int)] w1 fun e w' => e = .returned (.slice (some ⟨g, 0, none⟩) cap cap) ∧ w'.rowIs g 9 cap (fun _ => .string (markB xs.length)) ∧ Touch (fun j => j = g) w1 w' := fun w1 hb =>
    over_ok w1 g l.length cap xs.length cur (by rw [hb.block g (heap_lt hg)]; exact hg) hcs hn hcap hx (by omega) (by have := hb.size; omega) ((ht.below (by omega) hB).below (by omega) hb)
  have HW1 : ∀ w1, Below w.heap.size w w1 → w1.cell? ⟨bw, 2, none⟩ = some vtx ∧ (∀ w2, Touch (fun j => j = g) w1 w2 → w2.cell? ⟨bw, 2, none⟩ = some vtx ∧ Below w0.heap.size w0 w2 ∧ WbAt Wo w2 bw vts vbs vtx hs ps xs lab) := by
    intro w1 hb
    have hb01 := hB.trans (hb.mono hws)
    refine ⟨(cell_three (h.below hb01).wd.blk).2.2.1, fun w2 hT => ?_⟩
    have hb02 : Below w0.heap.size w0 w2 := hT.below hb01 (by have := hb01.size; omega) (fun k e => by omega)
    exact ⟨(cell_three (h.below hb02).wd.blk).2.2.1, hb02, h.below hb02⟩
  obtain ⟨n, HN⟩ : ∃ n, Hid (l.length = n) := ⟨_, rfl⟩
  obtain ⟨at', ct, hvt, _⟩ := ownsRow_shape h.ownX
  rw [HN.out] at HOV HS ⊢
  have HNT : ∀ w2, Below w0.heap.size w0 w2 → w2.rowIs g 9 cap (fun _ => .string (markB xs.length)) → ∀ g' cap' w3, w3.ownsRow (bw + 1) 56 1 (.slice (some ⟨g', 0, none⟩) (xs.length + 1) cap') (xs.length + 1) (xs ++ [.slice (some ⟨g, 0, none⟩) cap cap]) → (w2.alloc (.cells #[.slice (some ⟨g, 0, none⟩) cap cap] 56)).grownBy w3 vtx.ownBlock → (vtx.ownBlock = some g' ∨ g' = (w2.alloc (.cells #[.slice (some ⟨g, 0, none⟩) cap cap] 56)).heap.size) →
      w3.heap[bw]? = some (.cells #[vts, vbs, vtx] 31 (0, 0)) ∧ Hid (Touch (fun k => k = bw ∨ lab k ≠ 0) w0 (w3.setCell ⟨bw, 2, none⟩ (.slice (some ⟨g', 0, none⟩) (xs.length + 1) cap')) ∧ ∃ lab', WbAt Wo (w3.setCell ⟨bw, 2, none⟩ (.slice (some ⟨g', 0, none⟩) (xs.length + 1) cap')) bw vts vbs (.slice (some ⟨g', 0, none⟩) (xs.length + 1) cap') hs ps (xs ++ [.slice (some ⟨g, 0, none⟩) cap cap]) lab') := by
    intro w2 hb hr g' cap' w3 ho hgr hf
    exact h.newText hb (.inr ⟨g, cap, rfl, hcap, hr⟩) (fun j e => by simp only [Value.ownBlock, Option.some.injEq] at e; omega) ho hgr hf
  have HNA : ∀ w2, Below w0.heap.size w0 w2 → (w2.alloc (.cells #[.slice (some ⟨g, 0, none⟩) cap cap] 56)).ownsRow (bw + 1) 56 1 vtx xs.length xs ∧ bw + 1 ≤ w2.heap.size := fun w2 hb => ⟨(h.below hb).ownX.alloc _, by have := hb.size; omega⟩
  rw [hvt] at HW1 HNA HNT
  unfold maxLen at hcap
  clear h hu hv hg hB ht
  go_enter Tryz.func51, Tryz.ntmps51
  go_wp2_with (first
    | (go_at_call 90; refine HS.mono ?_; rintro e w1 ⟨rfl, hb1⟩; obtain ⟨c1, HW2⟩ := HW1 w1 hb1; have HOV1 := HOV w1 hb1; clear HW1 HOV hb1)
    | (go_at_call 91; refine HOV1.mono ?_; rintro e w2 ⟨rfl, hr2, hT2⟩; obtain ⟨c2, hb2, _⟩ := HW2 w2 hT2; obtain ⟨hna, hsb⟩ := HNA w2 hb2; have HNT2 := HNT w2 hb2 hr2; clear HW2 HNA HNT hr2 hT2 hb2 c1)
    | (at_builtin; refine wpList_append_fresh _ rfl _ _ 29 rfl (bw + 1) 56 i0 (.slice none 0 0) 1 24 Tryz.underlying29 hi0 hz0 hz01 hz02 rfl (by decide) _ xs.length xs rfl hna ⟨w2.heap.size, 0, none⟩ 1 1 [.slice (some ⟨g, 0, none⟩) cap cap] rfl rfl (cell_one_new _ _ _) (by intro u hu; simp at hu; subst hu; rfl) (by decide) (by unfold maxLen; omega) (by omega) (by simp; omega) ?_; intro g' cap' w3 hown hgr hfr; obtain ⟨f0, F⟩ := HNT2 g' cap' w3 hown hgr hfr; obtain ⟨f1, f2, f3, f4⟩ := cell_three f0; have f5 := frozen_three f0; clear HNT2 hown hgr hfr f0))
  go_ret
  obtain ⟨hTF, lab', hF⟩ := F.out
  exact ⟨rfl, hTF, _, _, lab', hF⟩
end Go.Proofs.YtpngikmcjkjdaaaGreatDoor

namespace Go.Proofs.YtpngikmcjkjdaaaGreatDoor
open Go.RowKit
set_option linter.unusedVariables false
set_option linter.unusedSimpArgs false

set_option maxRecDepth 20000 in
set_option maxHeartbeats 4000000 in
theorem looksB_ok (Wo w : World) (bw : Nat) (vts vbs vtx : Value) (hs : List Hd) (ps : List Bk) (xs : List Value) (lab : Nat → Nat) (h : WbAt Wo w bw vts vbs vtx hs ps xs lab) (hn : hs.length ≤ 4398046511104) (hx : xs.length ≤ 4398046511104) (h3 : 3 ≤ bw) (ht : PowTab w) :
    Calls Tryz.prog 13 #[.pointer (some ⟨bw, 0, none⟩)] w fun e w' => e = .returned (.bool true) ∧ Below w.heap.size w w' := by
  obtain ⟨al, cl, rfl, hal⟩ := ownsRow_shape h.wd.own
  obtain ⟨at', ct, rfl, hat⟩ := ownsRow_shape h.ownX
  have hbs := heap_lt h.wd.blk
  go_enter Tryz.func13, Tryz.ntmps13
  go_wp2_with fail
  go_loopw [3, 4] (fun i' _ wr => ∃ i : Nat, i ≤ hs.length ∧ i' = .int .i64 i ∧ Below w.heap.size w wr) (fun i' _ _ => hs.length - (intOf i').toNat)
  case atStart => exact ⟨0, by omega, rfl, Below.refl _ _⟩
  case round =>
    obtain ⟨i, hi, rfl, hb⟩ := hrel
    have hr := h.below hb
    obtain ⟨y0, y1, y2, y3⟩ := cell_three hr.wd.blk
    replace y2 : wr.cell? ⟨bw, 2, none⟩ = some (.slice at' xs.length ct) := y2
    by_cases hlt : i < hs.length
    · obtain ⟨gl, rfl, hcl⟩ := hal (by omega)
      have z0 : wr.cell? ⟨gl, i, none⟩ = some (.pointer (some ⟨hs[i].bh, 0, none⟩)) := by
        have := (hcl i (by omega)).trans (ptrs_at hs i hlt)
        rw [(bcell hb).1 _ _ (lt_of_cell this)]; exact this
      have HC := still_ok hs[i] wr (hr.wd.hds _ (List.getElem_mem hlt))
      obtain ⟨dd, HDD⟩ : ∃ x, Hid (hs[i] = x) := ⟨hs[i], by unfold Hid; rfl⟩
      rw [HDD.out] at z0 HC
      have HB : Hid (Below w.heap.size w wr) := hb
      have hbs2 := hb.size
      clear hr hcl hal hb hat h
      go_wp2_with fail
      refine HC.mono ?_
      rintro e w1 ⟨rfl, hB1⟩
      clear HC
      go_wp2_with fail
      go_roundw
      case rel => exact ⟨i + 1, by omega, by go_num, HB.out.trans (hB1.mono hbs2)⟩
      case measure => simp [intOf]; omega
    · have he : i = hs.length := by omega
      subst he
      have HB : Hid (Below w.heap.size w wr) := hb
      clear hr hal hb y0 y1 y2 y3
      have y2 : ∀ w2, Below w.heap.size w w2 → w2.cell? ⟨bw, 2, none⟩ = some (.slice at' xs.length ct) ∧ w2.cell? ⟨bw, 0, none⟩ = some (.slice al hs.length cl) := fun w2 hb2 => ⟨(cell_three (h.below hb2).wd.blk).2.2.1, (cell_three (h.below hb2).wd.blk).1⟩
      obtain ⟨d2, d0⟩ := y2 wr HB.out
      go_wp2_with fail
      go_loopw [5, 6] (fun i' _ wi => ∃ j : Nat, j ≤ xs.length ∧ i' = .int .i64 (j : Int) ∧ Below w.heap.size w wi) (fun i' _ _ => xs.length - (intOf i').toNat)
      case atStart => exact ⟨0, by omega, rfl, HB.out⟩
      case round =>
        obtain ⟨j, hj, rfl, hbi⟩ := hrel
        rename World => wi
        obtain ⟨c2, c0⟩ := y2 wi hbi
        have HBI : Hid (Below w.heap.size w wi) := hbi
        by_cases hlt : j < xs.length
        · obtain ⟨gx, rfl, hcx⟩ := hat (by omega)
          have hxj := (h.txs j hlt).1
          have hcj := (hcx j (by omega)).trans (List.getElem?_eq_getElem hlt)
          have q1 : (j : Int) < (xs.length : Int) := by omega
          have HAT : ∀ w2, Below w.heap.size w w2 → w2.cell? ⟨gx, j, none⟩ = some xs[j] := fun w2 hb2 => ((bcell hb2).1 _ _ (lt_of_cell hcj)).trans hcj
          have HMK : ∀ w2, Below w.heap.size w w2 → Calls Tryz.prog 24 #[.int .i64 (j : Int)] w2 fun e w' => e = .returned (.string (markB j)) ∧ Below w2.heap.size w2 w' := fun w2 hb2 => mark_ok j (by omega) w2 (ht.below (by omega) hb2)
          have HSZ : ∀ w2, Below w.heap.size w w2 → w.heap.size ≤ w2.heap.size := fun w2 hb2 => hb2.size
          rcases hxj with hnil | ⟨g, m, hv, hm, hrow⟩
          · have e0 := HAT wi hbi
            rw [hnil] at e0
            clear hcx hcj h ht hbi hat
            go_wp2_with fail
            go_loopw [6] (fun k' wk => k' = .int .i64 0 ∧ Below w.heap.size w wk) (fun _ _ => 0)
            case atStart => exact ⟨rfl, HBI.out⟩
            case round =>
              obtain ⟨rfl, hbk⟩ := hrel
              rename World => wk
              have e1 := HAT wk hbk
              rw [hnil] at e1
              obtain ⟨k2, k0⟩ := y2 wk hbk
              have HBK : Hid (Below w.heap.size w wk) := hbk
              clear hbk
              go_wp2_with fail
              go_roundw
              case rel => exact ⟨j + 1, by omega, by go_num, HBK.out⟩
              case measure => simp [intOf]; omega
          · rw [hv] at HAT
            have e0 := HAT wi hbi
            have HRW : ∀ w2, Below w.heap.size w w2 → ∀ k, k < m → w2.cell? ⟨g, k, none⟩ = some (.string (markB j)) := fun w2 hb2 k hk => ((bcell hb2).1 _ _ (World.rowIs.lt hrow)).trans (World.rowIs.cell hrow hk)
            unfold maxLen at hm
            clear hcx hcj h ht hbi hat hrow
            go_wp2_with fail
            go_loopw [6] (fun k' wk => ∃ k : Nat, k ≤ m ∧ k' = .int .i64 (k : Int) ∧ Below w.heap.size w wk) (fun k' _ => m - (intOf k').toNat)
            case atStart => exact ⟨0, by omega, rfl, HBI.out⟩
            case round =>
              obtain ⟨k, hk, rfl, hbk⟩ := hrel
              rename World => wk
              have e1 := HAT wk hbk
              obtain ⟨k2, k0⟩ := y2 wk hbk
              have HBK : Hid (Below w.heap.size w wk) := hbk
              have hsk := hbk.size
              by_cases hkm : k < m
              · have e2 := HRW wk hbk k hkm
                have HM := HMK wk hbk
                have q2 : (k : Int) < (m : Int) := by omega
                have q3 : ((markB j).toList == (markB j).toList) = true := by rw [beq_str]; simp
                have hbd : Below w.heap.size w wk.drew := hbk.drew
                have HMd := HMK wk.drew hbd
                have HTR : ∀ w2, Below wk.drew.heap.size wk.drew w2 → Below w.heap.size w w2 := fun w2 h2 => hbd.trans (h2.mono hbd.size)
                clear hbk HM hbd
                go_upto_region 13 with fail
                go_region_held3 (fun w' => w'.cell? ⟨bw, 2, none⟩ = some (.slice (some ⟨gx, 0, none⟩) xs.length ct) ∧ w'.cell? ⟨gx, j, none⟩ = some (.slice (some ⟨g, 0, none⟩) m m) ∧ w'.cell? ⟨g, k, none⟩ = some (.string (markB j))) (go_keep)
                  ((go_at_call 24; refine HMd.mono ?_; rintro e w' ⟨rfl, hb'⟩; have hbw := HTR w' hb'; have u0 := (y2 w' hbw).1; have u1 := HAT w' hbw; have u2 := HRW w' hbw k hkm; have HBN : Hid (Below w.heap.size w w') := hbw; clear hb' hbw))
                all_goals go_wp2_with fail
                all_goals go_roundw
                case rel => exact ⟨k + 1, by omega, by go_num, HBN.out⟩
                case measure => simp [intOf]; omega
              · have q2 : ¬ (k : Int) < (m : Int) := by omega
                clear hbk
                go_wp2_with fail
                go_roundw
                case rel => exact ⟨j + 1, by omega, by go_num, HBK.out⟩
                case measure => simp [intOf]; omega
        · have q1 : ¬ (j : Int) < (xs.length : Int) := by omega
          clear h ht hbi hat
          go_wp2_with fail
          go_ret
          exact ⟨rfl, HBI.out⟩
end Go.Proofs.YtpngikmcjkjdaaaGreatDoor
