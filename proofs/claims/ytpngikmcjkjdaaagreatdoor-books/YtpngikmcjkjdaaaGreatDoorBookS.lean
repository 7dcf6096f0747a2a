import Derived.Test.YtpngikmcjkjdaaaGreatDoorBookL
namespace Go.Proofs.YtpngikmcjkjdaaaGreatDoor
open Go.RowKit
set_option linter.unusedVariables false
set_option linter.unusedSimpArgs false

theorem touch_trans {S : Nat → Prop} {w w1 w2 : World} (h1 : Touch S w w1) (h2 : Touch S w1 w2) : Touch S w w2 :=
  ⟨h2.os.trans h1.os, h2.tape.trans h1.tape, h2.output.trans h1.output, Nat.le_trans h1.size h2.size, fun k hk hs => (h2.block k (Nat.lt_of_lt_of_le hk h1.size) hs).trans (h1.block k hk hs)⟩
theorem own_base {w : World} {b1 b2 e s n : Nat} {v : Value} {x : List Value} (h : w.ownsRow b1 e s v n x) (hb : b2 ≤ b1) : w.ownsRow b2 e s v n x := by
  refine ⟨h.1, ?_⟩
  rcases h.2 with e1 | ⟨g, cap, cur, e1, e2, r⟩
  · exact .inl e1
  · exact .inr ⟨g, cap, cur, e1, Nat.le_trans hb e2, r⟩
theorem add_good {t : Nat → ByteArray} {n p : Nat} {s : ByteArray} (hs : SrtB t n) (hn : n ≤ 60) (htu : ∀ i, i < n → tuneB (t i) = true) (hp : IsPl t n s p) : SrtB (addT t n s p) (addN t n s p) ∧ addN t n s p ≤ 60 ∧ ∀ i, i < addN t n s p → tuneB (addT t n s p i) = true := by
  unfold addT addN
  cases h : addOk t n s p with
  | false => exact ⟨hs, hn, htu⟩
  | true =>
    simp only [addOk, Bool.and_eq_true, Bool.not_eq_true', decide_eq_true_eq, decide_eq_false_iff_not] at h
    obtain ⟨⟨h1, h2⟩, h3⟩ := h
    simp only [if_true]
    refine ⟨hp.ins_srt hs h2, by omega, fun i hi => ?_⟩
    unfold ins
    split
    · have := hp.le; exact htu i (by omega)
    · split
      · exact h1
      · exact htu (i - 1) (by omega)
theorem drop_good {t : Nat → ByteArray} {n p : Nat} {s : ByteArray} (hs : SrtB t n) (hn : n ≤ 60) (htu : ∀ i, i < n → tuneB (t i) = true) (hp : IsPl t n s p) : SrtB (dropT t n s p) (dropN t n s p) ∧ dropN t n s p ≤ 60 ∧ ∀ i, i < dropN t n s p → tuneB (dropT t n s p i) = true := by
  unfold dropT dropN
  cases h : dropOk t n s p with
  | false => exact ⟨hs, hn, htu⟩
  | true =>
    simp only [dropOk, Bool.and_eq_true, decide_eq_true_eq] at h
    obtain ⟨h1, h2, h3⟩ := h
    simp only [if_true]
    refine ⟨del_srt hs h2, by omega, fun i hi => ?_⟩
    unfold del
    split
    · exact htu i (by omega)
    · exact htu (i + 1) (by omega)
/-- What a step on a book leaves. -/
def BookedPost (Wo : World) (bw : Nat) (vts vbs : Value) (hs : List Hd) (ps : List Bk) (n : Nat) (lab : Nat → Nat) (w : World) (e : Ending) (w' : World) : Prop :=
  e = .returned (.bool true) ∧ Touch (fun k => k = bw ∨ lab k ≠ 0) w w' ∧ ∃ vtx' ps' xs' lab', WbAt Wo w' bw vts vbs vtx' hs ps' xs' lab' ∧ bptrs ps' = bptrs ps ∧ xs'.length ≤ n + 1
theorem bptrs_set {ps : List Bk} {i : Nat} (hi : i < ps.length) {d' : Bk} (hbp : d'.bp = ps[i].bp) : bptrs (ps.set i d') = bptrs ps := by
  apply List.ext_getElem?
  intro j
  by_cases hj : j < ps.length
  · rw [bptrs_at ps j hj, bptrs_at _ j (by simpa using hj)]
    by_cases e : i = j
    · subst e; simp [hbp]
    · rw [List.getElem_set_ne e]
  · rw [List.getElem?_eq_none (by simp [bptrs]; omega), List.getElem?_eq_none (by simp [bptrs]; omega)]
/-- A book whose tunes have changed alike on both sides. -/
theorem booked_change {Wo w W w1 w2 : World} {bw : Nat} {vts vbs vtx : Value} {hs : List Hd} {ps : List Bk} {xs : List Value} {lab : Nat → Nat} (h : WbAt Wo w bw vts vbs vtx hs ps xs lab) {i : Nat} (hi : i < ps.length) (BW : Below w.heap.size w W)
    {t' : Nat → ByteArray} {n' : Nat} {ry' : Value} (ht1 : Touch (fun k => k = ps[i].bx) W w1) (hx : BxAt w1 ps[i].bx t' n' ps[i].cx) (ht2 : Touch (fun k => k = ps[i].br) w1 w2) (hy : ByAt w2 ps[i].br ry' t' n' ps[i].cy) (hry : ∀ g, ry'.ownBlock = some g → ps[i].ry.ownBlock = some g ∨ w1.heap.size ≤ g)
    (hg : SrtB t' n' ∧ n' ≤ 60 ∧ ∀ j, j < n' → tuneB (t' j) = true) : BookedPost Wo bw vts vbs hs ps xs.length lab w (.returned (.bool true)) w2 := by
  obtain ⟨hd, hl⟩ := h.bks i hi
  have hT : Touch (fun k => lab k = 3 + 2 * i) w w2 :=
    touch_trans (touch_of_below BW) (touch_trans (touch_mono ht1 (fun k e => by rw [e]; exact hl _ (.inr (.inl rfl)))) (touch_mono ht2 (fun k e => by rw [e]; exact hl _ (.inr (.inr (.inl rfl))))))
  have hd2 := (hd.below BW).step ht1 hx ht2 hy hg.1 hg.2.1 hg.2.2
  obtain ⟨lab', hw⟩ := h.book hi hT hd2 rfl (fun k hk => by
    rcases hk with e | e | e | e | e
    · exact .inl (hl k (.inl e))
    · exact .inl (hl k (.inr (.inl e)))
    · exact .inl (hl k (.inr (.inr (.inl e))))
    · rcases hry k e with e | e
      · exact .inl (hl k (.inr (.inr (.inr (.inl e)))))
      · right; have := BW.size; have := ht1.size; omega
    · exact .inl (hl k (.inr (.inr (.inr (.inr e))))))
  exact ⟨rfl, touch_mono hT (fun k e => .inr (by rw [e]; omega)), vtx, _, xs, lab', hw, bptrs_set hi rfl, by omega⟩
/-- A book that has only been read. -/
theorem booked_same {Wo w w2 : World} {bw : Nat} {vts vbs vtx : Value} {hs : List Hd} {ps : List Bk} {xs : List Value} {lab : Nat → Nat} (h : WbAt Wo w bw vts vbs vtx hs ps xs lab) (BW : Below w.heap.size w w2) : BookedPost Wo bw vts vbs hs ps xs.length lab w (.returned (.bool true)) w2 :=
  ⟨rfl, touch_of_below BW, vtx, ps, xs, lab, h.below BW, rfl, by omega⟩

set_option maxRecDepth 20000 in
set_option maxHeartbeats 2000000 in
theorem booked_add (Wo w : World) (bw : Nat) (vts vbs vtx : Value) (hs : List Hd) (ps : List Bk) (xs : List Value) (lab : Nat → Nat) (h : WbAt Wo w bw vts vbs vtx hs ps xs lab) (i : Nat) (hi : i < ps.length) (a b c d : Int) (s : ByteArray) (lo : Option Addr) (ll lc : Nat) (hss : s.size ≤ maxLen) :
    Calls Tryz.prog 22 #[.pointer (some ⟨bw, 0, none⟩), .agg #[.int .i64 11, .int .i64 a, .int .i64 b, .int .i64 c, .int .i64 d, .string s, .slice lo ll lc], .pointer (some ⟨ps[i].bp, 0, none⟩)] w (BookedPost Wo bw vts vbs hs ps xs.length lab w) := by
  obtain ⟨W, hW⟩ : ∃ W, W = w.alloc (.cells #[.int .i64 11, .int .i64 a, .int .i64 b, .int .i64 c, .int .i64 d, .string s, .slice lo ll lc] 33) := ⟨_, rfl⟩
  have BW : Below w.heap.size w W := by rw [hW]; exact (Below.refl _ _).alloc (Nat.le_refl _) _
  have hWs : w.heap.size < W.heap.size := by rw [hW]; simp
  have b0 : W.heap[w.heap.size]? = some (.cells #[.int .i64 11, .int .i64 a, .int .i64 b, .int .i64 c, .int .i64 d, .string s, .slice lo ll lc] 33 (0, 0)) := by rw [hW]; exact heap_at_new rfl
  obtain ⟨x0, x1, x2, x3, x4, x5, x6⟩ := cell_seven b0
  have hd := (h.bks i hi).1
  have hdW := hd.below BW
  obtain ⟨p0, p1, _, _⟩ := cell_two hdW.pr
  obtain ⟨p, hp⟩ := exists_pl ps[i].t s ps[i].n
  have HX := tadd_ok W.drew ps[i].bx ps[i].n ps[i].t ps[i].cx s p hdW.px hd.le hss hp
  have HY : ∀ w1, Touch (fun k => k = ps[i].bx) W w1 → _ := fun w1 ht => radd_ok w1.drew ps[i].br ps[i].n ps[i].ry ps[i].t ps[i].cy s p (hdW.stepX ht).2 hd.le hss hd.srt hp
  have HPR : ∀ w1, Touch (fun k => k = ps[i].bx) W w1 → w1.cell? ⟨ps[i].bp, 0, none⟩ = some (.pointer (some ⟨ps[i].bx, 0, none⟩)) ∧ w1.cell? ⟨ps[i].bp, 1, none⟩ = some (.pointer (some ⟨ps[i].br, 0, none⟩)) ∧ w1.cell? ⟨w.heap.size, 5, none⟩ = some (.string s) ∧ ∀ w2, Touch (fun k => k = ps[i].br) w1 w2 → w2.cell? ⟨ps[i].bp, 1, none⟩ = some (.pointer (some ⟨ps[i].br, 0, none⟩)) ∧ w2.cell? ⟨w.heap.size, 5, none⟩ = some (.string s) := fun w1 ht => by
    obtain ⟨q0, q1, _, _⟩ := cell_two (hdW.stepX ht).1
    have hbx := World.rowIs.lt hd.px
    have hbr := World.rowIs.lt hd.py.1
    have hbp := heap_lt hd.pr
    have q5 := (World.cell?_of_block (a := ⟨w.heap.size, 5, none⟩) (ht.block _ hWs (fun e => by simp at e; omega))).trans x5
    refine ⟨q0, q1, q5, fun w2 ht2 => ⟨?_, ?_⟩⟩
    · exact (World.cell?_of_block (a := ⟨ps[i].bp, 1, none⟩) (ht2.block _ (lt_of_cell q1) (fun e => hd.apart.2.1 e))).trans q1
    · exact (World.cell?_of_block (a := ⟨w.heap.size, 5, none⟩) (ht2.block _ (lt_of_cell q5) (fun e => by simp at e; omega))).trans q5
  have HDONE : ∀ w1 w2 ry', Touch (fun k => k = ps[i].bx) W w1 → BxAt w1 ps[i].bx (addT ps[i].t ps[i].n s p) (addN ps[i].t ps[i].n s p) ps[i].cx → Touch (fun k => k = ps[i].br) w1 w2 → ByAt w2 ps[i].br ry' (addT ps[i].t ps[i].n s p) (addN ps[i].t ps[i].n s p) ps[i].cy → (∀ g, ry'.ownBlock = some g → ps[i].ry.ownBlock = some g ∨ w1.heap.size ≤ g) → Hid (BookedPost Wo bw vts vbs hs ps xs.length lab w (.returned (.bool true)) w2) := fun w1 w2 ry' k1 k2 k3 k4 k5 => booked_change h hi BW k1 k2 k3 k4 k5 (add_good hd.srt hd.le hd.tun hp)
  obtain ⟨dd, HDD⟩ : ∃ x, Hid (ps[i] = x) := ⟨ps[i], by unfold Hid; rfl⟩
  rw [HDD.out] at HX HY HPR HDONE p0 p1 ⊢
  generalize addOk dd.t dd.n s p = rb at *
  generalize addErr dd.t dd.n s p = re at *
  have e1 : (rb == rb) = true := by cases rb <;> rfl
  clear h hd hdW hp HDD
  go_enter Tryz.func22, Tryz.ntmps22
  go_upto_region 1 with fail
  rw [← hW]
  clear hW
  go_upto_region 3 with fail
  go_region_held3 (fun w' => w'.cell? ⟨dd.bp, 0, none⟩ = some (.pointer (some ⟨dd.bx, 0, none⟩)) ∧ w'.cell? ⟨w.heap.size, 5, none⟩ = some (.string s)) (go_keep)
    ((go_at_call 42; refine HX.mono ?_; rintro e w1 ⟨rfl, hx1, ht1'⟩; have ht1 : Touch (fun k => k = dd.bx) W w1 := ⟨ht1'.os, ht1'.tape, ht1'.output, ht1'.size, ht1'.block⟩; have HY1 := HY w1 ht1; obtain ⟨q0, q1, q5, HQ2⟩ := HPR w1 ht1; have HD1 := HDONE w1; have HX1 : Hid (BxAt w1 dd.bx (addT dd.t dd.n s p) (addN dd.t dd.n s p) dd.cx) := hx1; have HT1 : Hid (Touch (fun k => k = dd.bx) W w1) := ht1; clear HY HPR HDONE hx1 ht1 ht1'))
  all_goals go_upto_region 4 with fail
  all_goals go_region_held3 (fun w' => w'.cell? ⟨dd.bp, 1, none⟩ = some (.pointer (some ⟨dd.br, 0, none⟩)) ∧ w'.cell? ⟨w.heap.size, 5, none⟩ = some (.string s)) (go_keep)
    ((go_at_call 43; refine HY1.mono ?_; rintro e w2 ⟨rfl, ry', hy2, ht2', hr2⟩; have ht2 : Touch (fun k => k = dd.br) w1 w2 := ⟨ht2'.os, ht2'.tape, ht2'.output, ht2'.size, ht2'.block⟩; obtain ⟨s1, s5⟩ := HQ2 w2 ht2; have HF := HD1 w2 ry' HT1.out HX1.out ht2 hy2 hr2; clear HD1 hy2 ht2 hr2 HQ2 ht2'))
  all_goals go_wp2_with fail
  all_goals go_ret
  all_goals exact HF.out

set_option maxRecDepth 20000 in
set_option maxHeartbeats 2000000 in
theorem booked_drop (Wo w : World) (bw : Nat) (vts vbs vtx : Value) (hs : List Hd) (ps : List Bk) (xs : List Value) (lab : Nat → Nat) (h : WbAt Wo w bw vts vbs vtx hs ps xs lab) (i : Nat) (hi : i < ps.length) (a b c d : Int) (s : ByteArray) (lo : Option Addr) (ll lc : Nat) (hss : s.size ≤ maxLen) :
    Calls Tryz.prog 22 #[.pointer (some ⟨bw, 0, none⟩), .agg #[.int .i64 12, .int .i64 a, .int .i64 b, .int .i64 c, .int .i64 d, .string s, .slice lo ll lc], .pointer (some ⟨ps[i].bp, 0, none⟩)] w (BookedPost Wo bw vts vbs hs ps xs.length lab w) := by
  obtain ⟨W, hW⟩ : ∃ W, W = w.alloc (.cells #[.int .i64 12, .int .i64 a, .int .i64 b, .int .i64 c, .int .i64 d, .string s, .slice lo ll lc] 33) := ⟨_, rfl⟩
  have BW : Below w.heap.size w W := by rw [hW]; exact (Below.refl _ _).alloc (Nat.le_refl _) _
  have hWs : w.heap.size < W.heap.size := by rw [hW]; simp
  have b0 : W.heap[w.heap.size]? = some (.cells #[.int .i64 12, .int .i64 a, .int .i64 b, .int .i64 c, .int .i64 d, .string s, .slice lo ll lc] 33 (0, 0)) := by rw [hW]; exact heap_at_new rfl
  obtain ⟨x0, x1, x2, x3, x4, x5, x6⟩ := cell_seven b0
  have hd := (h.bks i hi).1
  have hdW := hd.below BW
  obtain ⟨p0, p1, _, _⟩ := cell_two hdW.pr
  obtain ⟨p, hp⟩ := exists_pl ps[i].t s ps[i].n
  have HX := tdrop_ok W.drew ps[i].bx ps[i].n ps[i].t ps[i].cx s p hdW.px hd.le hss hp
  have HY : ∀ w1, Touch (fun k => k = ps[i].bx) W w1 → _ := fun w1 ht => rdrop_ok w1.drew ps[i].br ps[i].n ps[i].ry ps[i].t ps[i].cy s p (hdW.stepX ht).2 hd.le hss hd.srt hp
  have HPR : ∀ w1, Touch (fun k => k = ps[i].bx) W w1 → w1.cell? ⟨ps[i].bp, 0, none⟩ = some (.pointer (some ⟨ps[i].bx, 0, none⟩)) ∧ w1.cell? ⟨ps[i].bp, 1, none⟩ = some (.pointer (some ⟨ps[i].br, 0, none⟩)) ∧ w1.cell? ⟨w.heap.size, 5, none⟩ = some (.string s) ∧ ∀ w2, Touch (fun k => k = ps[i].br) w1 w2 → w2.cell? ⟨ps[i].bp, 1, none⟩ = some (.pointer (some ⟨ps[i].br, 0, none⟩)) ∧ w2.cell? ⟨w.heap.size, 5, none⟩ = some (.string s) := fun w1 ht => by
    obtain ⟨q0, q1, _, _⟩ := cell_two (hdW.stepX ht).1
    have hbx := World.rowIs.lt hd.px
    have hbr := World.rowIs.lt hd.py.1
    have hbp := heap_lt hd.pr
    have q5 := (World.cell?_of_block (a := ⟨w.heap.size, 5, none⟩) (ht.block _ hWs (fun e => by simp at e; omega))).trans x5
    refine ⟨q0, q1, q5, fun w2 ht2 => ⟨?_, ?_⟩⟩
    · exact (World.cell?_of_block (a := ⟨ps[i].bp, 1, none⟩) (ht2.block _ (lt_of_cell q1) (fun e => hd.apart.2.1 e))).trans q1
    · exact (World.cell?_of_block (a := ⟨w.heap.size, 5, none⟩) (ht2.block _ (lt_of_cell q5) (fun e => by simp at e; omega))).trans q5
  have HDONE : ∀ w1 w2 ry', Touch (fun k => k = ps[i].bx) W w1 → BxAt w1 ps[i].bx (dropT ps[i].t ps[i].n s p) (dropN ps[i].t ps[i].n s p) ps[i].cx → Touch (fun k => k = ps[i].br) w1 w2 → ByAt w2 ps[i].br ry' (dropT ps[i].t ps[i].n s p) (dropN ps[i].t ps[i].n s p) ps[i].cy → (∀ g, ry'.ownBlock = some g → ps[i].ry.ownBlock = some g ∨ w1.heap.size ≤ g) → Hid (BookedPost Wo bw vts vbs hs ps xs.length lab w (.returned (.bool true)) w2) := fun w1 w2 ry' k1 k2 k3 k4 k5 => booked_change h hi BW k1 k2 k3 k4 k5 (drop_good hd.srt hd.le hd.tun hp)
  obtain ⟨dd, HDD⟩ : ∃ x, Hid (ps[i] = x) := ⟨ps[i], by unfold Hid; rfl⟩
  rw [HDD.out] at HX HY HPR HDONE p0 p1 ⊢
  generalize dropOk dd.t dd.n s p = rb at *
  generalize dropErr s = re at *
  have e1 : (rb == rb) = true := by cases rb <;> rfl
  clear h hd hdW hp HDD
  go_enter Tryz.func22, Tryz.ntmps22
  go_upto_region 1 with fail
  rw [← hW]
  clear hW
  go_upto_region 7 with fail
  go_region_held3 (fun w' => w'.cell? ⟨dd.bp, 0, none⟩ = some (.pointer (some ⟨dd.bx, 0, none⟩)) ∧ w'.cell? ⟨w.heap.size, 5, none⟩ = some (.string s)) (go_keep)
    ((go_at_call 44; refine HX.mono ?_; rintro e w1 ⟨rfl, hx1, ht1'⟩; have ht1 : Touch (fun k => k = dd.bx) W w1 := ⟨ht1'.os, ht1'.tape, ht1'.output, ht1'.size, ht1'.block⟩; have HY1 := HY w1 ht1; obtain ⟨q0, q1, q5, HQ2⟩ := HPR w1 ht1; have HD1 := HDONE w1; have HX1 : Hid (BxAt w1 dd.bx (dropT dd.t dd.n s p) (dropN dd.t dd.n s p) dd.cx) := hx1; have HT1 : Hid (Touch (fun k => k = dd.bx) W w1) := ht1; clear HY HPR HDONE hx1 ht1 ht1'))
  all_goals go_upto_region 8 with fail
  all_goals go_region_held3 (fun w' => w'.cell? ⟨dd.bp, 1, none⟩ = some (.pointer (some ⟨dd.br, 0, none⟩)) ∧ w'.cell? ⟨w.heap.size, 5, none⟩ = some (.string s)) (go_keep)
    ((go_at_call 45; refine HY1.mono ?_; rintro e w2 ⟨rfl, ry', hy2, ht2', hr2⟩; have ht2 : Touch (fun k => k = dd.br) w1 w2 := ⟨ht2'.os, ht2'.tape, ht2'.output, ht2'.size, ht2'.block⟩; obtain ⟨s1, s5⟩ := HQ2 w2 ht2; have HF := HD1 w2 ry' HT1.out HX1.out ht2 hy2 hr2; clear HD1 hy2 ht2 hr2 HQ2 ht2'))
  all_goals go_wp2_with fail
  all_goals go_ret
  all_goals exact HF.out

set_option maxRecDepth 20000 in
set_option maxHeartbeats 2000000 in
theorem booked_has (Wo w : World) (bw : Nat) (vts vbs vtx : Value) (hs : List Hd) (ps : List Bk) (xs : List Value) (lab : Nat → Nat) (h : WbAt Wo w bw vts vbs vtx hs ps xs lab) (i : Nat) (hi : i < ps.length) (a b c d : Int) (s : ByteArray) (lo : Option Addr) (ll lc : Nat) (hss : s.size ≤ maxLen) :
    Calls Tryz.prog 22 #[.pointer (some ⟨bw, 0, none⟩), .agg #[.int .i64 13, .int .i64 a, .int .i64 b, .int .i64 c, .int .i64 d, .string s, .slice lo ll lc], .pointer (some ⟨ps[i].bp, 0, none⟩)] w (BookedPost Wo bw vts vbs hs ps xs.length lab w) := by
  obtain ⟨W, hW⟩ : ∃ W, W = w.alloc (.cells #[.int .i64 13, .int .i64 a, .int .i64 b, .int .i64 c, .int .i64 d, .string s, .slice lo ll lc] 33) := ⟨_, rfl⟩
  have BW : Below w.heap.size w W := by rw [hW]; exact (Below.refl _ _).alloc (Nat.le_refl _) _
  have hWs : w.heap.size < W.heap.size := by rw [hW]; simp
  have b0 : W.heap[w.heap.size]? = some (.cells #[.int .i64 13, .int .i64 a, .int .i64 b, .int .i64 c, .int .i64 d, .string s, .slice lo ll lc] 33 (0, 0)) := by rw [hW]; exact heap_at_new rfl
  obtain ⟨x0, x1, x2, x3, x4, x5, x6⟩ := cell_seven b0
  have hd := (h.bks i hi).1
  have hdW := hd.below BW
  obtain ⟨p0, p1, _, _⟩ := cell_two hdW.pr
  obtain ⟨p, hp⟩ := exists_pl ps[i].t s ps[i].n
  have HX := thas_ok W.drew ps[i].bx ps[i].n ps[i].t ps[i].cx s p hdW.px hd.le hss hp
  have HY := rhasC_ok W.drew.drew ps[i].br ps[i].n ps[i].ry ps[i].t ps[i].cy s p hdW.py hd.le hss hd.srt hp
  have HDONE : Hid (BookedPost Wo bw vts vbs hs ps xs.length lab w (.returned (.bool true)) W.drew.drew) := booked_same h BW.drew.drew
  obtain ⟨dd, HDD⟩ : ∃ x, Hid (ps[i] = x) := ⟨ps[i], by unfold Hid; rfl⟩
  rw [HDD.out] at HX HY p0 p1 ⊢
  generalize dropOk dd.t dd.n s p = rb at *
  generalize dropErr s = re at *
  have e1 : (rb == rb) = true := by cases rb <;> rfl
  clear h hd hdW hp HDD
  go_enter Tryz.func22, Tryz.ntmps22
  go_upto_region 1 with fail
  rw [← hW]
  clear hW
  go_upto_region 11 with fail
  go_region_held3 (fun w' => w'.cell? ⟨dd.bp, 0, none⟩ = some (.pointer (some ⟨dd.bx, 0, none⟩)) ∧ w'.cell? ⟨w.heap.size, 5, none⟩ = some (.string s)) (go_keep)
    ((go_at_call 46; refine HX.mono ?_; rintro e w1 ⟨rfl, hw1⟩; obtain rfl : W.drew = w1 := hw1.symm))
  all_goals go_upto_region 12 with fail
  all_goals go_region_held3 (fun w' => w'.cell? ⟨dd.bp, 1, none⟩ = some (.pointer (some ⟨dd.br, 0, none⟩)) ∧ w'.cell? ⟨w.heap.size, 5, none⟩ = some (.string s)) (go_keep)
    ((go_at_call 47; refine HY.mono ?_; rintro e w2 ⟨rfl, hw2⟩; obtain rfl : W.drew.drew = w2 := hw2.symm))
  all_goals go_wp2_with fail
  all_goals go_ret
  all_goals exact HDONE.out

set_option maxRecDepth 20000 in
set_option maxHeartbeats 2000000 in
theorem booked_count (Wo w : World) (bw : Nat) (vts vbs vtx : Value) (hs : List Hd) (ps : List Bk) (xs : List Value) (lab : Nat → Nat) (h : WbAt Wo w bw vts vbs vtx hs ps xs lab) (i : Nat) (hi : i < ps.length) (a b c d : Int) (s : ByteArray) (lo : Option Addr) (ll lc : Nat) (hss : s.size ≤ maxLen) :
    Calls Tryz.prog 22 #[.pointer (some ⟨bw, 0, none⟩), .agg #[.int .i64 14, .int .i64 a, .int .i64 b, .int .i64 c, .int .i64 d, .string s, .slice lo ll lc], .pointer (some ⟨ps[i].bp, 0, none⟩)] w (BookedPost Wo bw vts vbs hs ps xs.length lab w) := by
  obtain ⟨W, hW⟩ : ∃ W, W = w.alloc (.cells #[.int .i64 14, .int .i64 a, .int .i64 b, .int .i64 c, .int .i64 d, .string s, .slice lo ll lc] 33) := ⟨_, rfl⟩
  have BW : Below w.heap.size w W := by rw [hW]; exact (Below.refl _ _).alloc (Nat.le_refl _) _
  have hWs : w.heap.size < W.heap.size := by rw [hW]; simp
  have b0 : W.heap[w.heap.size]? = some (.cells #[.int .i64 14, .int .i64 a, .int .i64 b, .int .i64 c, .int .i64 d, .string s, .slice lo ll lc] 33 (0, 0)) := by rw [hW]; exact heap_at_new rfl
  obtain ⟨x0, x1, x2, x3, x4, x5, x6⟩ := cell_seven b0
  have hd := (h.bks i hi).1
  have hdW := hd.below BW
  obtain ⟨p0, p1, _, _⟩ := cell_two hdW.pr
  have HX := tcount_ok W ps[i].bx ps[i].n ps[i].t ps[i].cx hdW.px
  have HDONE : Hid (BookedPost Wo bw vts vbs hs ps xs.length lab w (.returned (.bool true)) W) := booked_same h BW
  have r0 := hdW.py.row
  obtain ⟨ra, rc, hra, _⟩ := hdW.py.shape
  rw [hra] at r0
  obtain ⟨dd, HDD⟩ : ∃ x, Hid (ps[i] = x) := ⟨ps[i], by unfold Hid; rfl⟩
  rw [HDD.out] at HX p0 p1 r0 ⊢
  clear h hd hdW HDD hra
  go_enter Tryz.func22, Tryz.ntmps22
  go_upto_region 1 with fail
  rw [← hW]
  clear hW
  go_wp2_with (go_at_call 48; refine HX.mono ?_; rintro e w1 ⟨rfl, hw1⟩; obtain rfl : W = w1 := hw1.symm)
  go_ret
  exact HDONE.out

set_option maxRecDepth 20000 in
set_option maxHeartbeats 2000000 in
theorem booked_knots (Wo w : World) (bw : Nat) (vts vbs vtx : Value) (hs : List Hd) (ps : List Bk) (xs : List Value) (lab : Nat → Nat) (h : WbAt Wo w bw vts vbs vtx hs ps xs lab) (i : Nat) (hi : i < ps.length) (a b c d : Int) (s : ByteArray) (lo : Option Addr) (ll lc : Nat) (hss : s.size ≤ maxLen) (hx : xs.length ≤ 4398046511104) (h3 : 3 ≤ bw) (ht : PowTab w) :
    Calls Tryz.prog 22 #[.pointer (some ⟨bw, 0, none⟩), .agg #[.int .i64 15, .int .i64 a, .int .i64 b, .int .i64 c, .int .i64 d, .string s, .slice lo ll lc], .pointer (some ⟨ps[i].bp, 0, none⟩)] w (BookedPost Wo bw vts vbs hs ps xs.length lab w) := by
  obtain ⟨W, hW⟩ : ∃ W, W = w.alloc (.cells #[.int .i64 15, .int .i64 a, .int .i64 b, .int .i64 c, .int .i64 d, .string s, .slice lo ll lc] 33) := ⟨_, rfl⟩
  have BW : Below w.heap.size w W := by rw [hW]; exact (Below.refl _ _).alloc (Nat.le_refl _) _
  have hWs : w.heap.size < W.heap.size := by rw [hW]; simp
  have b0 : W.heap[w.heap.size]? = some (.cells #[.int .i64 15, .int .i64 a, .int .i64 b, .int .i64 c, .int .i64 d, .string s, .slice lo ll lc] 33 (0, 0)) := by rw [hW]; exact heap_at_new rfl
  obtain ⟨x0, x1, x2, x3, x4, x5, x6⟩ := cell_seven b0
  have hd := (h.bks i hi).1
  have hdW := hd.below BW
  obtain ⟨p0, p1, _, _⟩ := cell_two hdW.pr
  have hz : ∀ j, j < ps[i].n → (ps[i].t j).size ≤ 12 := fun j hj => by have := hd.tun j hj; simp [tuneB] at this; exact this.1
  have HX := tknots_ok W ps[i].bx ps[i].n ps[i].t ps[i].cx hdW.px hd.le hz
  have HY : ∀ w1, Below W.heap.size W w1 → _ := fun w1 hb => rknots_ok w1 ps[i].br ps[i].n ps[i].ry ps[i].t ps[i].cy (hdW.py.below hb) hd.le hd.tun hd.srt
  have hkl : (knots ps[i].t ps[i].n ps[i].n).length ≤ 100000 := by have := knots_len ps[i].t ps[i].n hz ps[i].n (Nat.le_refl _); have := hd.le; omega
  have hkp : 0 < (knots ps[i].t ps[i].n ps[i].n).length := by
    have : ByteArray.empty ∈ knots ps[i].t ps[i].n ps[i].n := by
      have h0 : ∀ m, ByteArray.empty ∈ knots ps[i].t ps[i].n m := fun m => by
        induction m with
        | zero => simp [knots]
        | succ m ih => rw [knots]; exact List.mem_append_left _ ih
      exact h0 _
    exact List.length_pos_of_mem this
  have HPR : ∀ w1, Below W.heap.size W w1 → w1.cell? ⟨ps[i].bp, 0, none⟩ = some (.pointer (some ⟨ps[i].bx, 0, none⟩)) ∧ w1.cell? ⟨ps[i].bp, 1, none⟩ = some (.pointer (some ⟨ps[i].br, 0, none⟩)) := fun w1 hb => by
    obtain ⟨q0, q1, _, _⟩ := cell_two (hdW.below hb).pr
    exact ⟨q0, q1⟩
  have HL : ∀ w1 w2 v u, Below W.heap.size W w1 → w1.ownsRow W.heap.size 9 1 v (knots ps[i].t ps[i].n ps[i].n).length (strs (knots ps[i].t ps[i].n ps[i].n)) → Below w1.heap.size w1 w2 → w2.ownsRow w1.heap.size 9 1 u (knots ps[i].t ps[i].n ps[i].n).length (strs (knots ps[i].t ps[i].n ps[i].n)) → Calls Tryz.prog 51 #[.pointer (some ⟨bw, 0, none⟩), v, u] w2 (BookedPost Wo bw vts vbs hs ps xs.length lab w) := fun w1 w2 v u hb1 hv hb2 hu => by
    have hs1 := hb1.size
    have hs0 := BW.size
    have hB : Below w.heap.size w w2 := (BW.trans (hb1.mono hs0)).trans (hb2.mono (by omega))
    refine (list_ok Wo w w2 bw vts vbs vtx hs ps xs lab h hB hx h3 ht _ hkl hkp v u (own_base (ownsRow_below hv hb2) hs0) (own_base hu (by omega))).mono ?_
    rintro e w' ⟨rfl, hT, vtx', x, lab', hw⟩
    exact ⟨rfl, hT, vtx', ps, xs ++ [x], lab', hw, rfl, by simp⟩
  obtain ⟨dd, HDD⟩ : ∃ x, Hid (ps[i] = x) := ⟨ps[i], by unfold Hid; rfl⟩
  rw [HDD.out] at HX HY HPR HL p0 p1 ⊢
  clear h hd hdW HDD hkl hkp hz ht
  go_enter Tryz.func22, Tryz.ntmps22
  go_upto_region 1 with fail
  rw [← hW]
  clear hW
  go_wp2_with (first
    | (go_at_call 49; refine HX.mono ?_; rintro e w1 ⟨hb1, v, rfl, hv⟩; have HY1 := HY w1 hb1; obtain ⟨q0, q1⟩ := HPR w1 hb1; have HL1 := fun w2 u => HL w1 w2 v u hb1 hv; clear HY HPR HL hb1 hv)
    | (go_at_call 50; refine HY1.mono ?_; rintro e w2 ⟨hb2, u, rfl, hu⟩; have HL2 := HL1 w2 u hb2 hu; clear HL1 hb2 hu)
    | (go_at_call 51; refine HL2.mono ?_; rintro e w3 hP; have HP : Hid (BookedPost Wo bw vts vbs hs ps xs.length lab w e w3) := hP; obtain rfl : e = .returned (.bool true) := hP.1; clear hP))
  go_ret
  exact HP.out
end Go.Proofs.YtpngikmcjkjdaaaGreatDoor
