import Derived.Test.YtpngikmcjkjdaabG10
set_option linter.unusedVariables false
set_option linter.unusedSimpArgs false
namespace Go.Proofs.Ytpngikmcjkjdaab
open Go.RowKit
set_option linter.unusedVariables false
set_option linter.unusedSimpArgs false
def NodesAt (w : World) (gn : Nat) (L : List Nd) : Prop := ∀ i d, L[i]? = some d → ∀ j, j < 15 → w.cell? ⟨gn, i * 15 + j, none⟩ = (nagg d)[j]?
theorem NodesAt.block {w w1 : World} {gn : Nat} {L : List Nd} (h : NodesAt w gn L) (hb : w1.heap[gn]? = w.heap[gn]?) : NodesAt w1 gn L := fun i d hi j hj => (World.cell?_of_block (a := ⟨gn, _, none⟩) hb).trans (h i d hi j hj)
def LayPost (bm : Nat) (vb : Value) (n : Nat) (beh rdr : Nat → Nat) (p : Pat) (w : World) (e : Ending) (w' : World) : Prop :=
  ∃ (em : Bool) (F La : Nat) (vb' : Value) (beh' rdr' : Nat → Nat), e = .returned (.agg #[.bool em, .int .i64 (F : Int), .int .i64 (La : Int)]) ∧ Lays bm vb n beh rdr w vb' (n + p.size) beh' rdr' w' ∧ StrOk rdr' beh' n (n + p.size) em F La p.lang
structure LayIn (w : World) (gn bm : Nat) (L : List Nd) (vb : Value) (n : Nat) (beh rdr : Nat → Nat) : Prop where
  nod : NodesAt w gn L
  ahead : gn < bm
  mach : MachAt w bm vb n beh rdr
  fresh : ∀ c q, n ≤ q → (rdr c).testBit q = false
  pos : 1 ≤ n
theorem LayIn.below {w w1 : World} {gn bm : Nat} {L : List Nd} {vb : Value} {n : Nat} {beh rdr : Nat → Nat} (h : LayIn w gn bm L vb n beh rdr) (hb : Below w.heap.size w w1) : LayIn w1 gn bm L vb n beh rdr :=
  ⟨h.nod.block (hb.block _ (by have := h.mach.blk.lt; have := h.ahead; omega)), h.ahead, h.mach.below hb, h.fresh, h.pos⟩
theorem LayIn.laid {w w1 : World} {gn bm : Nat} {L : List Nd} {vb vb1 : Value} {n n1 : Nat} {beh rdr beh1 rdr1 : Nat → Nat} (h : LayIn w gn bm L vb n beh rdr) (hl : Lays bm vb n beh rdr w vb1 n1 beh1 rdr1 w1) (hn : n ≤ n1) : LayIn w1 gn bm L vb1 n1 beh1 rdr1 := by
  have ha := h.ahead
  have hb := h.mach.blk.lt
  refine ⟨h.nod.block (hl.touch.block gn (by omega) ?_), ha, hl.mach, hl.fresh, by have := h.pos; omega⟩
  rintro (e | e)
  · omega
  · have := (h.mach.own.lt _ e).1; omega
def LayC (p : Pat) : Prop := ∀ (L : List Nd) (gn cap i bm : Nat) (vb : Value) (n : Nat) (beh rdr : Nat → Nat) (w : World), NodeIs L i p → LayIn w gn bm L vb n beh rdr → n + p.size ≤ 11 →
  Calls Try.prog 71 #[.pointer (some ⟨bm, 0, none⟩), .slice (some ⟨gn, 0, none⟩) L.length cap, .int .i64 (i : Int)] w (LayPost bm vb n beh rdr p w)
theorem keep_blk {bm : Nat} {vb : Value} {n : Nat} {beh rdr : Nat → Nat} {w w1 : World} {b t : Nat} {cs : Array Value} (hm : MachAt w bm vb n beh rdr) (ht : Touch (fun b => b = bm ∨ vb.ownBlock = some b) w w1) (hb : w.heap[b]? = some (.cells cs t (0, 0))) (hbm : bm < b) (hty : 3 ≠ t) : w1.heap[b]? = some (.cells cs t (0, 0)) := by
  refine (ht.block b (heap_lt hb) ?_).trans hb
  rintro (e | e)
  · omega
  · exact own_ne hm.own hb hty e
theorem touch_gb {bm gb n cap : Nat} {w w1 : World} (ht : Touch (fun k => k = gb) w w1) : Touch (fun k => k = bm ∨ (Value.slice (some ⟨gb, 0, none⟩) n cap).ownBlock = some k) w w1 :=
  ⟨ht.os, ht.tape, ht.output, ht.size, fun k hk hn => ht.block k hk (fun e => hn (.inr (by simp only [Value.ownBlock]; rw [show k = gb from e])))⟩
theorem nagg_cells {w : World} {b t : Nat} {d : Nd} (h : w.heap[b]? = some (.cells (nagg d) t (0, 0))) : ∀ j, j < 15 → w.cell? ⟨b, j, none⟩ = (nagg d)[j]? := fun j hj => cell_of_row w b j (nagg d) t (0, 0) h
theorem MachAt.slice {w : World} {bm : Nat} {vb : Value} {n : Nat} {beh rdr : Nat → Nat} (h : MachAt w bm vb n beh rdr) (hn : 1 ≤ n) : ∃ gb cap, vb = .slice (some ⟨gb, 0, none⟩) n cap := by
  obtain ⟨ao, cap, rfl, hao⟩ := ownsRow_shape h.own
  obtain ⟨g, rfl, _⟩ := hao (by omega)
  exact ⟨g, cap, rfl⟩
theorem lays_set {bm : Nat} {vb vb1 : Value} {n n1 : Nat} {beh rdr beh1 rdr1 : Nat → Nat} {w w1 : World} (h : Lays bm vb n beh rdr w vb1 n1 beh1 rdr1 w1) {b t : Nat} {x y z : Value} (hb : w1.heap[b]? = some (.cells #[x, y, z] t (0, 0))) (hw : w.heap.size ≤ b) (hbm : bm < b) (hty : 3 ≠ t) (u v r : Value) :
    Lays bm vb n beh rdr w vb1 n1 beh1 rdr1 (((w1.setCell ⟨b, 0, none⟩ u).setCell ⟨b, 1, none⟩ v).setCell ⟨b, 2, none⟩ r) ∧
    (((w1.setCell ⟨b, 0, none⟩ u).setCell ⟨b, 1, none⟩ v).setCell ⟨b, 2, none⟩ r).heap[b]? = some (.cells #[u, v, r] t (0, 0)) := by
  have h3 : (((w1.setCell ⟨b, 0, none⟩ u).setCell ⟨b, 1, none⟩ v).setCell ⟨b, 2, none⟩ r).heap[b]? = some (.cells #[u, v, r] t (0, 0)) := by
    simp [World.setCell, Array.getElem?_modify, hb]
  have hown : ∀ g, vb1.ownBlock = some g → g ≠ b := fun g hg e => own_ne h.mach.own hb hty (by rw [hg, e])
  refine ⟨⟨⟨((h.mach.blk.setOther (by simp; omega) _).setOther (by simp; omega) _).setOther (by simp; omega) _, ownsRow_set (ownsRow_set (ownsRow_set h.mach.own _ _ hown) _ _ hown) _ _ hown, h.mach.lb, h.mach.lr⟩, h.fresh, h.behs, h.rdrs, ((h.touch.set _ _ (.inr hw)).set _ _ (.inr hw)).set _ _ (.inr hw), h.own⟩, h3⟩
set_option maxRecDepth 20000 in
set_option maxHeartbeats 8000000 in
theorem lay_none (L : List Nd) (gn cap i bm : Nat) (vb : Value) (n : Nat) (beh rdr : Nat → Nat) (w : World) (sz : Nat) (S : Nat → Bool) (le co : Nat) (en : Bool) (o t : Nat) (hd : L[i]? = some ⟨0, sz, S, le, co, en, o, t⟩) (hin : LayIn w gn bm L vb n beh rdr) :
    Calls Try.prog 71 #[.pointer (some ⟨bm, 0, none⟩), .slice (some ⟨gn, 0, none⟩) L.length cap, .int .i64 (i : Int)] w (LayPost bm vb n beh rdr .none w) := by
  have hlt : i < L.length := (List.getElem?_eq_some_iff.1 hd).1
  have hbm : bm < w.heap.size := hin.mach.blk.lt
  have hgn : gn < w.heap.size := by have := hin.ahead; omega
  have hgne : ¬ gn = w.heap.size := by omega
  have NC := hin.nod i _ hd
  have n0 := NC 0 (by omega)
  have n1 := NC 1 (by omega)
  have n2 := NC 2 (by omega)
  have n3 := NC 3 (by omega)
  have n4 := NC 4 (by omega)
  have n5 := NC 5 (by omega)
  have n6 := NC 6 (by omega)
  have n7 := NC 7 (by omega)
  have n8 := NC 8 (by omega)
  have n9 := NC 9 (by omega)
  have n10 := NC 10 (by omega)
  have n11 := NC 11 (by omega)
  have n12 := NC 12 (by omega)
  have n13 := NC 13 (by omega)
  have n14 := NC 14 (by omega)
  simp [nagg] at n0 n1 n2 n3 n4 n5 n6 n7 n8 n9 n10 n11 n12 n13 n14
  clear NC
  obtain ⟨W, hW⟩ : ∃ W, W = (w.alloc (.cells #[.bool false, .int .i64 0, .int .i64 0] 118)).alloc (.cells (nagg ⟨0, sz, S, le, co, en, o, t⟩) 92) := ⟨_, rfl⟩
  have BW : Below w.heap.size w W := by rw [hW]; exact ((Below.refl _ _).alloc (Nat.le_refl _) _).alloc (by simp) _
  have hWs : W.heap.size = w.heap.size + 1 + 1 := by rw [hW]; simp
  have b0 : W.heap[w.heap.size]? = some (.cells #[.bool false, .int .i64 0, .int .i64 0] 118 (0, 0)) := by rw [hW]; exact heap_at_old (heap_at_new rfl)
  have b1 : W.heap[w.heap.size + 1]? = some (.cells (nagg ⟨0, sz, S, le, co, en, o, t⟩) 92 (0, 0)) := by rw [hW]; exact heap_at_new (by simp)
  have hin1 := hin.below BW
  have KC := nagg_cells b1
  have k0 := KC 0 (by omega)
  simp [nagg] at k0
  clear KC
  unfold nagg at hW
  simp only [show ((0 : Nat) : Int) = 0 from rfl, show ((1 : Nat) : Int) = 1 from rfl, show ((2 : Nat) : Int) = 2 from rfl, show ((3 : Nat) : Int) = 3 from rfl, show ((4 : Nat) : Int) = 4 from rfl] at hW
  go_enter Try.func71, Try.ntmps71
  go_upto_region 2 with fail
  rw [← hW]
  clear hW n0 n1 n2 n3 n4 n5 n6 n7 n8 n9 n10 n11 n12 n13 n14
  have hL : Lays bm vb n beh rdr w vb n beh rdr W := (Lays.refl hin.mach hin.fresh).grow BW
  obtain ⟨q0, q1, q2, p0, p1, p2⟩ := cell_three' b0
  obtain ⟨hL9, hb9⟩ := lays_set hL b0 (Nat.le_refl _) (by omega) (by decide) (.bool true) (.int .i64 0) (.int .i64 0)
  obtain ⟨r0, r1, r2, _, _, _⟩ := cell_three' hb9
  have HR0 : Hid _ := r0
  have HR1 : Hid _ := r1
  have HR2 : Hid _ := r2
  clear r0 r1 r2 hb9
  go_wp2_with fail
  have r0 := HR0.out
  have r1 := HR1.out
  have r2 := HR2.out
  refine bodyPost_ret (v := .agg #[.bool true, .int .i64 0, .int .i64 0]) (by simp [results, Try.results71, go_sem, r0, r1, r2]) rfl ?_
  exact ⟨true, 0, 0, vb, beh, rdr, rfl, hL9, StrOk.nothing rdr beh n⟩
set_option maxRecDepth 20000 in
set_option maxHeartbeats 8000000 in
theorem lay_one (L : List Nd) (gn cap i bm : Nat) (vb : Value) (n : Nat) (beh rdr : Nat → Nat) (w : World) (sz : Nat) (S : Nat → Bool) (le co : Nat) (en : Bool) (o t : Nat) (hd : L[i]? = some ⟨1, sz, S, le, co, en, o, t⟩) (hin : LayIn w gn bm L vb n beh rdr) (hn : n < 11) :
    Calls Try.prog 71 #[.pointer (some ⟨bm, 0, none⟩), .slice (some ⟨gn, 0, none⟩) L.length cap, .int .i64 (i : Int)] w (LayPost bm vb n beh rdr (.one S) w) := by
  have hlt : i < L.length := (List.getElem?_eq_some_iff.1 hd).1
  have hbm : bm < w.heap.size := hin.mach.blk.lt
  have hgn : gn < w.heap.size := by have := hin.ahead; omega
  have hgne : ¬ gn = w.heap.size := by omega
  have NC := hin.nod i _ hd
  have n0 := NC 0 (by omega)
  have n1 := NC 1 (by omega)
  have n2 := NC 2 (by omega)
  have n3 := NC 3 (by omega)
  have n4 := NC 4 (by omega)
  have n5 := NC 5 (by omega)
  have n6 := NC 6 (by omega)
  have n7 := NC 7 (by omega)
  have n8 := NC 8 (by omega)
  have n9 := NC 9 (by omega)
  have n10 := NC 10 (by omega)
  have n11 := NC 11 (by omega)
  have n12 := NC 12 (by omega)
  have n13 := NC 13 (by omega)
  have n14 := NC 14 (by omega)
  simp [nagg] at n0 n1 n2 n3 n4 n5 n6 n7 n8 n9 n10 n11 n12 n13 n14
  clear NC
  obtain ⟨W, hW⟩ : ∃ W, W = (w.alloc (.cells #[.bool false, .int .i64 0, .int .i64 0] 118)).alloc (.cells (nagg ⟨1, sz, S, le, co, en, o, t⟩) 92) := ⟨_, rfl⟩
  have BW : Below w.heap.size w W := by rw [hW]; exact ((Below.refl _ _).alloc (Nat.le_refl _) _).alloc (by simp) _
  have hWs : W.heap.size = w.heap.size + 1 + 1 := by rw [hW]; simp
  have b0 : W.heap[w.heap.size]? = some (.cells #[.bool false, .int .i64 0, .int .i64 0] 118 (0, 0)) := by rw [hW]; exact heap_at_old (heap_at_new rfl)
  have b1 : W.heap[w.heap.size + 1]? = some (.cells (nagg ⟨1, sz, S, le, co, en, o, t⟩) 92 (0, 0)) := by rw [hW]; exact heap_at_new (by simp)
  have hin1 := hin.below BW
  have KC := nagg_cells b1
  have k0 := KC 0 (by omega)
  have k2 := KC 2 (by omega)
  have k3 := KC 3 (by omega)
  have k4 := KC 4 (by omega)
  have k5 := KC 5 (by omega)
  have k6 := KC 6 (by omega)
  have k7 := KC 7 (by omega)
  have k8 := KC 8 (by omega)
  have k9 := KC 9 (by omega)
  simp [nagg] at k0 k2 k3 k4 k5 k6 k7 k8 k9
  clear KC
  unfold nagg at hW
  simp only [show ((0 : Nat) : Int) = 0 from rfl, show ((1 : Nat) : Int) = 1 from rfl, show ((2 : Nat) : Int) = 2 from rfl, show ((3 : Nat) : Int) = 3 from rfl, show ((4 : Nat) : Int) = 4 from rfl] at hW
  go_enter Try.func71, Try.ntmps71
  go_upto_region 2 with fail
  rw [← hW]
  clear hW n0 n1 n2 n3 n4 n5 n6 n7 n8 n9 n10 n11 n12 n13 n14
  have HC := addSpot_ok bm vb n beh rdr S W hn hin1.mach
  unfold bools8 at HC
  go_wp2_with fail
  refine HC.mono ?_
  clear HC
  rintro e w1 ⟨rfl, vb', hm1, ht1, ho1⟩
  have hz1 := ht1.size
  have bb := keep_blk hin1.mach ht1 b0 (by omega) (by decide)
  have hb' : ∀ p, p < n → (if p = n then 0 else beh p) = beh p := fun p hp => if_neg (by omega)
  have hb2 : ∀ (x c q : Nat), (if S c then rdr c ||| 2 ^ n else rdr c).testBit q = (if q = n then (S c || (rdr c).testBit n) else (rdr c).testBit q) := by
    intro x c q
    by_cases hq : q = n
    · subst hq
      rw [if_pos rfl]
      cases S c
      · simp
      · simp [Nat.testBit_or, Nat.testBit_two_pow]
    · rw [if_neg hq]
      cases S c
      · simp
      · have : ¬ n = q := fun e => hq e.symm
        simp [Nat.testBit_or, Nat.testBit_two_pow, this]
  have hL : Lays bm vb n beh rdr w vb' (n + 1) (fun p => if p = n then 0 else beh p) (fun c => if S c then rdr c ||| 2 ^ n else rdr c) w1 := by
    refine Lays.pre ⟨hm1, fun c q hq => ?_, fun p hp => hb' p hp, fun p c hp => ?_, ht1, ho1⟩ BW
    · rw [hb2 0 c q, if_neg (by omega)]; exact hin.fresh c q (by omega)
    · rw [hb2 0 c p, if_neg (by omega)]
  have hS : StrOk (fun c => if S c then rdr c ||| 2 ^ n else rdr c) (fun p => if p = n then 0 else beh p) n (n + 1) false (2 ^ n) (2 ^ n) (Pat.one S).lang := by
    refine StrOk.spot (by simp) (fun c => ?_)
    rw [hb2 0 c n, if_pos rfl, hin.fresh c n (Nat.le_refl _)]
    simp
  obtain ⟨pw, HPW⟩ : ∃ x, Hid (2 ^ n = x) := ⟨2 ^ n, rfl⟩
  have HL : Hid (Lays bm vb n beh rdr w vb' (n + 1) (fun p => if p = n then 0 else beh p) (fun c => if S c then rdr c ||| 2 ^ n else rdr c) w1) := hL
  have HS : Hid (StrOk (fun c => if S c then rdr c ||| 2 ^ n else rdr c) (fun p => if p = n then 0 else beh p) n (n + 1) false (2 ^ n) (2 ^ n) (Pat.one S).lang) := hS
  clear hb2 hb' hS hL hm1 ht1 ho1 hin1
  rw [HPW.out]
  obtain ⟨q0, q1, q2, p0, p1, p2⟩ := cell_three' bb
  obtain ⟨hL9, hb9⟩ := lays_set HL.out bb (Nat.le_refl _) (by omega) (by decide) (.bool false) (.int .i64 (pw : Int)) (.int .i64 (pw : Int))
  obtain ⟨r0, r1, r2, _, _, _⟩ := cell_three' hb9
  have HR0 : Hid _ := r0
  have HR1 : Hid _ := r1
  have HR2 : Hid _ := r2
  clear r0 r1 r2 hb9
  go_wp2_with fail
  have r0 := HR0.out
  have r1 := HR1.out
  have r2 := HR2.out
  refine bodyPost_ret (v := .agg #[.bool false, .int .i64 (pw : Int), .int .i64 (pw : Int)]) (by simp [results, Try.results71, go_sem, r0, r1, r2]) rfl ?_
  refine ⟨false, 2 ^ n, 2 ^ n, vb', _, _, by rw [HPW.out], hL9, HS.out⟩
set_option maxRecDepth 20000 in
set_option maxHeartbeats 8000000 in
theorem lay_chain (a b : Pat) (HA : LayC a) (HB : LayC b) (L : List Nd) (gn cap i bm : Nat) (vb : Value) (n : Nat) (beh rdr : Nat → Nat) (w : World) (sz : Nat) (S : Nat → Bool) (le co : Nat) (en : Bool) (o t : Nat) (hd : L[i]? = some ⟨2, sz, S, le, co, en, o, t⟩) (ha : NodeIs L o a) (hb : NodeIs L t b) (hin : LayIn w gn bm L vb n beh rdr) (hn : n + (a.size + b.size) ≤ 11) :
    Calls Try.prog 71 #[.pointer (some ⟨bm, 0, none⟩), .slice (some ⟨gn, 0, none⟩) L.length cap, .int .i64 (i : Int)] w (LayPost bm vb n beh rdr (.chain a b) w) := by
  have hlt : i < L.length := (List.getElem?_eq_some_iff.1 hd).1
  have hbm : bm < w.heap.size := hin.mach.blk.lt
  have hgn : gn < w.heap.size := by have := hin.ahead; omega
  have hgne : ¬ gn = w.heap.size := by omega
  have NC := hin.nod i _ hd
  have n0 := NC 0 (by omega)
  have n1 := NC 1 (by omega)
  have n2 := NC 2 (by omega)
  have n3 := NC 3 (by omega)
  have n4 := NC 4 (by omega)
  have n5 := NC 5 (by omega)
  have n6 := NC 6 (by omega)
  have n7 := NC 7 (by omega)
  have n8 := NC 8 (by omega)
  have n9 := NC 9 (by omega)
  have n10 := NC 10 (by omega)
  have n11 := NC 11 (by omega)
  have n12 := NC 12 (by omega)
  have n13 := NC 13 (by omega)
  have n14 := NC 14 (by omega)
  simp [nagg] at n0 n1 n2 n3 n4 n5 n6 n7 n8 n9 n10 n11 n12 n13 n14
  clear NC
  obtain ⟨W, hW⟩ : ∃ W, W = (w.alloc (.cells #[.bool false, .int .i64 0, .int .i64 0] 118)).alloc (.cells (nagg ⟨2, sz, S, le, co, en, o, t⟩) 92) := ⟨_, rfl⟩
  have BW : Below w.heap.size w W := by rw [hW]; exact ((Below.refl _ _).alloc (Nat.le_refl _) _).alloc (by simp) _
  have hWs : W.heap.size = w.heap.size + 1 + 1 := by rw [hW]; simp
  have b0 : W.heap[w.heap.size]? = some (.cells #[.bool false, .int .i64 0, .int .i64 0] 118 (0, 0)) := by rw [hW]; exact heap_at_old (heap_at_new rfl)
  have b1 : W.heap[w.heap.size + 1]? = some (.cells (nagg ⟨2, sz, S, le, co, en, o, t⟩) 92 (0, 0)) := by rw [hW]; exact heap_at_new (by simp)
  have hin1 := hin.below BW
  have KC := nagg_cells b1
  have k0 := KC 0 (by omega)
  have k13 := KC 13 (by omega)
  have k14 := KC 14 (by omega)
  simp [nagg] at k0 k13 k14
  clear KC
  unfold nagg at hW
  simp only [show ((0 : Nat) : Int) = 0 from rfl, show ((1 : Nat) : Int) = 1 from rfl, show ((2 : Nat) : Int) = 2 from rfl, show ((3 : Nat) : Int) = 3 from rfl, show ((4 : Nat) : Int) = 4 from rfl] at hW
  go_enter Try.func71, Try.ntmps71
  go_upto_region 2 with fail
  rw [← hW]
  clear hW n0 n1 n2 n3 n4 n5 n6 n7 n8 n9 n10 n11 n12 n13 n14
  have HC := HA L gn cap o bm vb n beh rdr W ha hin1 (by omega)
  go_wp2_with fail
  refine HC.mono ?_
  clear HC
  rintro e w1 ⟨e1, F1, L1, vb1, beh1, rdr1, rfl, hl1, hs1⟩
  have c0 := keep_blk hin1.mach hl1.touch b0 (by omega) (by decide)
  have c1 := keep_blk hin1.mach hl1.touch b1 (by omega) (by decide)
  have hz1 := hl1.touch.size
  obtain ⟨W1, hW1⟩ : ∃ W, W = w1.alloc (.cells #[.bool e1, .int .i64 (F1 : Int), .int .i64 (L1 : Int)] 118) := ⟨_, rfl⟩
  have BW1 : Below w1.heap.size w1 W1 := by rw [hW1]; exact (Below.refl _ _).alloc (Nat.le_refl _) _
  have d2 : W1.heap[w1.heap.size]? = some (.cells #[.bool e1, .int .i64 (F1 : Int), .int .i64 (L1 : Int)] 118 (0, 0)) := by rw [hW1]; exact heap_at_new rfl
  have hWs1 : W1.heap.size = w1.heap.size + 1 := by rw [hW1]; simp
  have hL1 : Lays bm vb n beh rdr w vb1 (n + a.size) beh1 rdr1 W1 := (hl1.pre BW).grow BW1
  have hin2 : LayIn W1 gn bm L vb1 (n + a.size) beh1 rdr1 := hin.laid hL1 (by omega)
  have d0 := (BW1.block _ (heap_lt c0)).trans c0
  have d1 := (BW1.block _ (heap_lt c1)).trans c1
  have KC := nagg_cells d1
  have k14' := KC 14 (by omega)
  have k13' := KC 13 (by omega)
  simp [nagg] at k14' k13'
  clear KC k0 k13 k14 b0 b1 c0 c1
  have HC := HB L gn cap t bm vb1 (n + a.size) beh1 rdr1 W1 hb hin2 (by omega)
  go_upto_region 8 with fail
  rw [← hW1]
  clear hW1
  go_wp2_with fail
  refine HC.mono ?_
  clear HC
  rintro e w2 ⟨e2, F2, L2, vb2, beh2, rdr2, rfl, hl2, hs2⟩
  have f0 := keep_blk hin2.mach hl2.touch d0 (by omega) (by decide)
  have f2 := keep_blk hin2.mach hl2.touch d2 (by omega) (by decide)
  have hz2 := hl2.touch.size
  obtain ⟨W2, hW2⟩ : ∃ W, W = w2.alloc (.cells #[.bool e2, .int .i64 (F2 : Int), .int .i64 (L2 : Int)] 118) := ⟨_, rfl⟩
  have BW2 : Below w2.heap.size w2 W2 := by rw [hW2]; exact (Below.refl _ _).alloc (Nat.le_refl _) _
  have g3 : W2.heap[w2.heap.size]? = some (.cells #[.bool e2, .int .i64 (F2 : Int), .int .i64 (L2 : Int)] 118 (0, 0)) := by rw [hW2]; exact heap_at_new rfl
  have hWs2 : W2.heap.size = w2.heap.size + 1 := by rw [hW2]; simp
  have hL2 : Lays bm vb n beh rdr w vb2 (n + a.size + b.size) beh2 rdr2 W2 := hL1.trans (hl2.grow BW2) (by omega)
  have g0 := (BW2.block _ (heap_lt f0)).trans f0
  have g2 := (BW2.block _ (heap_lt f2)).trans f2
  have hs1' := hs1.laid hl2
  have hF1 := hs1'.F_lt (by omega)
  have hLL1 := hs1'.L_lt (by omega)
  have hF2 := hs2.F_lt (by omega)
  have hLL2 := hs2.L_lt (by omega)
  clear d0 d1 d2 k13' k14' f0 f2
  obtain ⟨s0, s1, s2, _, _, _⟩ := cell_three' g2
  obtain ⟨u0, u1, u2, _, _, _⟩ := cell_three' g3
  obtain ⟨gb, cap2, rfl⟩ := hL2.mach.slice (by have := hin.pos; omega)
  have HC := mchain_ok bm gb (n + a.size + b.size) cap2 beh2 rdr2 e1 e2 F1 L1 F2 L2 W2 (by omega) hL2.mach hF1 hLL1 hF2 hLL2
  obtain ⟨F3, HF3⟩ : ∃ x, Hid ((if e1 then F1 ||| F2 else F1) = x) := ⟨_, rfl⟩
  obtain ⟨L3, HL3⟩ : ∃ x, Hid ((if e2 then L2 ||| L1 else L2) = x) := ⟨_, rfl⟩
  rw [HF3.out, HL3.out] at HC
  have HST : Hid (StrOk rdr2 (linkF beh2 L1 F2) n (n + a.size + b.size) (e1 && e2) F3 L3 (Cat a.lang b.lang)) := by
    have := hs1'.chain hs2
    rw [HF3.out, HL3.out] at this
    exact this
  obtain ⟨e3, HE3⟩ : ∃ x, Hid ((e1 && e2) = x) := ⟨_, rfl⟩
  rw [HE3.out] at HC HST
  go_upto_region 9 with fail
  rw [← hW2]
  clear hW2
  go_wp2_with fail
  refine HC.mono ?_
  clear HC
  rintro e w3 ⟨rfl, hm3, ht3⟩
  have hL3 : Lays bm vb n beh rdr w (.slice (some ⟨gb, 0, none⟩) (n + a.size + b.size) cap2) (n + a.size + b.size) (linkF beh2 L1 F2) rdr2 w3 := hL2.linked hm3 ht3 (fun p hp => (hs1'.la p hp).1)
  have h0 := keep_blk hL2.mach (touch_gb ht3) g0 (by omega) (by decide)
  clear hm3 ht3 hs1 hs2 hs1' hl1 hl2 g0 g2 g3 s0 s1 s2 u0 u1 u2 hin1 hin2
  obtain ⟨q0, q1, q2, p0, p1, p2⟩ := cell_three' h0
  obtain ⟨hL9, hb9⟩ := lays_set hL3 h0 (Nat.le_refl _) (by omega) (by decide) (.bool e3) (.int .i64 (F3 : Int)) (.int .i64 (L3 : Int))
  obtain ⟨r0, r1, r2, _, _, _⟩ := cell_three' hb9
  have HR0 : Hid _ := r0
  have HR1 : Hid _ := r1
  have HR2 : Hid _ := r2
  clear r0 r1 r2 hb9
  go_wp2_with fail
  have r0 := HR0.out
  have r1 := HR1.out
  have r2 := HR2.out
  refine bodyPost_ret (v := .agg #[.bool e3, .int .i64 (F3 : Int), .int .i64 (L3 : Int)]) (by simp [results, Try.results71, go_sem, r0, r1, r2]) rfl ?_
  have hsz : n + (Pat.chain a b).size = n + a.size + b.size := by simp only [Pat.size]; omega
  exact ⟨e3, F3, L3, _, _, _, rfl, by rw [hsz]; exact hL9, by rw [hsz]; exact HST.out⟩
set_option maxRecDepth 20000 in
set_option maxHeartbeats 8000000 in
theorem lay_alt (a b : Pat) (HA : LayC a) (HB : LayC b) (L : List Nd) (gn cap i bm : Nat) (vb : Value) (n : Nat) (beh rdr : Nat → Nat) (w : World) (sz : Nat) (S : Nat → Bool) (le co : Nat) (en : Bool) (o t : Nat) (hd : L[i]? = some ⟨3, sz, S, le, co, en, o, t⟩) (ha : NodeIs L o a) (hb : NodeIs L t b) (hin : LayIn w gn bm L vb n beh rdr) (hn : n + (a.size + b.size) ≤ 11) :
    Calls Try.prog 71 #[.pointer (some ⟨bm, 0, none⟩), .slice (some ⟨gn, 0, none⟩) L.length cap, .int .i64 (i : Int)] w (LayPost bm vb n beh rdr (.alt a b) w) := by
  have hlt : i < L.length := (List.getElem?_eq_some_iff.1 hd).1
  have hbm : bm < w.heap.size := hin.mach.blk.lt
  have hgn : gn < w.heap.size := by have := hin.ahead; omega
  have hgne : ¬ gn = w.heap.size := by omega
  have NC := hin.nod i _ hd
  have n0 := NC 0 (by omega)
  have n1 := NC 1 (by omega)
  have n2 := NC 2 (by omega)
  have n3 := NC 3 (by omega)
  have n4 := NC 4 (by omega)
  have n5 := NC 5 (by omega)
  have n6 := NC 6 (by omega)
  have n7 := NC 7 (by omega)
  have n8 := NC 8 (by omega)
  have n9 := NC 9 (by omega)
  have n10 := NC 10 (by omega)
  have n11 := NC 11 (by omega)
  have n12 := NC 12 (by omega)
  have n13 := NC 13 (by omega)
  have n14 := NC 14 (by omega)
  simp [nagg] at n0 n1 n2 n3 n4 n5 n6 n7 n8 n9 n10 n11 n12 n13 n14
  clear NC
  obtain ⟨W, hW⟩ : ∃ W, W = (w.alloc (.cells #[.bool false, .int .i64 0, .int .i64 0] 118)).alloc (.cells (nagg ⟨3, sz, S, le, co, en, o, t⟩) 92) := ⟨_, rfl⟩
  have BW : Below w.heap.size w W := by rw [hW]; exact ((Below.refl _ _).alloc (Nat.le_refl _) _).alloc (by simp) _
  have hWs : W.heap.size = w.heap.size + 1 + 1 := by rw [hW]; simp
  have b0 : W.heap[w.heap.size]? = some (.cells #[.bool false, .int .i64 0, .int .i64 0] 118 (0, 0)) := by rw [hW]; exact heap_at_old (heap_at_new rfl)
  have b1 : W.heap[w.heap.size + 1]? = some (.cells (nagg ⟨3, sz, S, le, co, en, o, t⟩) 92 (0, 0)) := by rw [hW]; exact heap_at_new (by simp)
  have hin1 := hin.below BW
  have KC := nagg_cells b1
  have k0 := KC 0 (by omega)
  have k13 := KC 13 (by omega)
  have k14 := KC 14 (by omega)
  simp [nagg] at k0 k13 k14
  clear KC
  unfold nagg at hW
  simp only [show ((0 : Nat) : Int) = 0 from rfl, show ((1 : Nat) : Int) = 1 from rfl, show ((2 : Nat) : Int) = 2 from rfl, show ((3 : Nat) : Int) = 3 from rfl, show ((4 : Nat) : Int) = 4 from rfl] at hW
  go_enter Try.func71, Try.ntmps71
  go_upto_region 2 with fail
  rw [← hW]
  clear hW n0 n1 n2 n3 n4 n5 n6 n7 n8 n9 n10 n11 n12 n13 n14
  have HC := HA L gn cap o bm vb n beh rdr W ha hin1 (by omega)
  go_wp2_with fail
  refine HC.mono ?_
  clear HC
  rintro e w1 ⟨e1, F1, L1, vb1, beh1, rdr1, rfl, hl1, hs1⟩
  have c0 := keep_blk hin1.mach hl1.touch b0 (by omega) (by decide)
  have c1 := keep_blk hin1.mach hl1.touch b1 (by omega) (by decide)
  have hz1 := hl1.touch.size
  obtain ⟨W1, hW1⟩ : ∃ W, W = w1.alloc (.cells #[.bool e1, .int .i64 (F1 : Int), .int .i64 (L1 : Int)] 118) := ⟨_, rfl⟩
  have BW1 : Below w1.heap.size w1 W1 := by rw [hW1]; exact (Below.refl _ _).alloc (Nat.le_refl _) _
  have d2 : W1.heap[w1.heap.size]? = some (.cells #[.bool e1, .int .i64 (F1 : Int), .int .i64 (L1 : Int)] 118 (0, 0)) := by rw [hW1]; exact heap_at_new rfl
  have hWs1 : W1.heap.size = w1.heap.size + 1 := by rw [hW1]; simp
  have hL1 : Lays bm vb n beh rdr w vb1 (n + a.size) beh1 rdr1 W1 := (hl1.pre BW).grow BW1
  have hin2 : LayIn W1 gn bm L vb1 (n + a.size) beh1 rdr1 := hin.laid hL1 (by omega)
  have d0 := (BW1.block _ (heap_lt c0)).trans c0
  have d1 := (BW1.block _ (heap_lt c1)).trans c1
  have KC := nagg_cells d1
  have k14' := KC 14 (by omega)
  have k13' := KC 13 (by omega)
  simp [nagg] at k14' k13'
  clear KC k0 k13 k14 b0 b1 c0 c1
  have HC := HB L gn cap t bm vb1 (n + a.size) beh1 rdr1 W1 hb hin2 (by omega)
  go_upto_region 12 with fail
  rw [← hW1]
  clear hW1
  go_wp2_with fail
  refine HC.mono ?_
  clear HC
  rintro e w2 ⟨e2, F2, L2, vb2, beh2, rdr2, rfl, hl2, hs2⟩
  have f0 := keep_blk hin2.mach hl2.touch d0 (by omega) (by decide)
  have f2 := keep_blk hin2.mach hl2.touch d2 (by omega) (by decide)
  have hz2 := hl2.touch.size
  obtain ⟨W2, hW2⟩ : ∃ W, W = w2.alloc (.cells #[.bool e2, .int .i64 (F2 : Int), .int .i64 (L2 : Int)] 118) := ⟨_, rfl⟩
  have BW2 : Below w2.heap.size w2 W2 := by rw [hW2]; exact (Below.refl _ _).alloc (Nat.le_refl _) _
  have g3 : W2.heap[w2.heap.size]? = some (.cells #[.bool e2, .int .i64 (F2 : Int), .int .i64 (L2 : Int)] 118 (0, 0)) := by rw [hW2]; exact heap_at_new rfl
  have hWs2 : W2.heap.size = w2.heap.size + 1 := by rw [hW2]; simp
  have hL2 : Lays bm vb n beh rdr w vb2 (n + a.size + b.size) beh2 rdr2 W2 := hL1.trans (hl2.grow BW2) (by omega)
  have g0 := (BW2.block _ (heap_lt f0)).trans f0
  have g2 := (BW2.block _ (heap_lt f2)).trans f2
  have hs1' := hs1.laid hl2
  have hF1 := hs1'.F_lt (by omega)
  have hLL1 := hs1'.L_lt (by omega)
  have hF2 := hs2.F_lt (by omega)
  have hLL2 := hs2.L_lt (by omega)
  clear d0 d1 d2 k13' k14' f0 f2
  obtain ⟨s0, s1, s2, _, _, _⟩ := cell_three' g2
  obtain ⟨u0, u1, u2, _, _, _⟩ := cell_three' g3
  have ho1 := bits_or_i64 F1 F2 hF1 hF2
  have ho2 := bits_or_i64 L1 L2 hLL1 hLL2
  have HST : Hid (StrOk rdr2 beh2 n (n + a.size + b.size) (e1 || e2) (F1 ||| F2) (L1 ||| L2) (fun x => a.lang x ∨ b.lang x)) := hs1'.alt hs2
  obtain ⟨F3, HF3⟩ : ∃ x, Hid (F1 ||| F2 = x) := ⟨_, rfl⟩
  obtain ⟨L3, HL3⟩ : ∃ x, Hid (L1 ||| L2 = x) := ⟨_, rfl⟩
  rw [HF3.out] at ho1 HST
  rw [HL3.out] at ho2 HST
  clear hs1 hs2 hs1' hl1 hl2 g2 g3 hin1 hin2
  have na : ¬ w.heap.size = w2.heap.size := by omega
  have nb : ¬ w1.heap.size = w2.heap.size := by omega
  obtain ⟨q0, q1, q2, p0, p1, p2⟩ := cell_three' g0
  obtain ⟨hL9, hb9⟩ := lays_set hL2 g0 (Nat.le_refl _) (by omega) (by decide) (.bool (e1 || e2)) (.int .i64 (F3 : Int)) (.int .i64 (L3 : Int))
  obtain ⟨r0, r1, r2, _, _, _⟩ := cell_three' hb9
  have HR0 : Hid _ := r0
  have HR1 : Hid _ := r1
  have HR2 : Hid _ := r2
  clear r0 r1 r2 hb9
  go_upto_region 13 with fail
  rw [← hW2]
  clear hW2
  cases e1
  · simp only [Bool.false_or] at *
    go_wp2_with fail
    have r0 := HR0.out
    have r1 := HR1.out
    have r2 := HR2.out
    refine bodyPost_ret (v := .agg #[.bool e2, .int .i64 (F3 : Int), .int .i64 (L3 : Int)]) (by simp [results, Try.results71, go_sem, r0, r1, r2]) rfl ?_
    have hsz : n + (Pat.alt a b).size = n + a.size + b.size := by simp only [Pat.size]; omega
    exact ⟨e2, F3, L3, _, _, _, rfl, by rw [hsz]; exact hL9, by rw [hsz]; exact HST.out⟩
  · simp only [Bool.true_or] at *
    go_wp2_with fail
    have r0 := HR0.out
    have r1 := HR1.out
    have r2 := HR2.out
    refine bodyPost_ret (v := .agg #[.bool true, .int .i64 (F3 : Int), .int .i64 (L3 : Int)]) (by simp [results, Try.results71, go_sem, r0, r1, r2]) rfl ?_
    have hsz : n + (Pat.alt a b).size = n + a.size + b.size := by simp only [Pat.size]; omega
    exact ⟨true, F3, L3, _, _, _, rfl, by rw [hsz]; exact hL9, by rw [hsz]; exact HST.out⟩
end Go.Proofs.Ytpngikmcjkjdaab

namespace Go.Proofs.Ytpngikmcjkjdaab
open Go.RowKit
set_option linter.unusedVariables false
set_option linter.unusedSimpArgs false
theorem mlink_ok (bm gb n cap : Nat) (beh rdr : Nat → Nat) (L F : Nat) (w : World) (hn : n ≤ 11) (h : MachAt w bm (.slice (some ⟨gb, 0, none⟩) n cap) n beh rdr) (hL : L < 2048) (hF : F < 2048) :
    Calls Try.prog 89 #[.pointer (some ⟨bm, 0, none⟩), .int .i64 L, .int .i64 F] w fun e w' => e = .returned (.tuple #[]) ∧ MachAt w' bm (.slice (some ⟨gb, 0, none⟩) n cap) n (linkF beh L F) rdr ∧ Touch (fun b => b = gb) w w' := by
  have x0 := h.blk.cell (i := 0) (by omega)
  simp only [if_true] at x0
  have hgb := h.own.lt gb rfl
  refine (link_ok bm (bm + 1) gb n cap beh L F w hn hL hF h.lb x0 (by omega) h.own).mono ?_
  rintro e w1 ⟨rfl, hT, hO⟩
  exact ⟨rfl, ⟨h.blk.of_block (hT.block _ h.blk.lt (fun e => by have := hgb.1; omega)), hO, linkF_lt hF h.lb, h.lr⟩, hT⟩
structure LcSt (a : Pat) (lo : Nat) (en : Bool) (w : World) (bm : Nat) (vb : Value) (n : Nat) (beh rdr : Nat → Nat) (D : Nd) (wr : World) (i : Nat) (vbi : Value) (behi rdri : Nat → Nat) (em : Bool) (F La : Nat) : Prop where
  lays : Lays bm vb n beh rdr w vbi (n + a.size * i) behi rdri wr
  str : StrOk rdri behi n (n + a.size * i) em F La (Copies a.lang lo en i)
  nb : wr.heap[w.heap.size]? = some (.cells (nagg D) 92 (0, 0))
  rb : wr.heap[w.heap.size + 1]? = some (.cells #[.bool false, .int .i64 0, .int .i64 0] 118 (0, 0))
  wb : wr.heap[w.heap.size + 1 + 1]? = some (.cells #[.bool em, .int .i64 (F : Int), .int .i64 (La : Int)] 118 (0, 0))
theorem LcSt.next {a : Pat} {lo : Nat} {en : Bool} {w : World} {bm : Nat} {vb : Value} {n : Nat} {beh rdr : Nat → Nat} {D : Nd} {wr : World} {i : Nat} {vbi : Value} {behi rdri : Nat → Nat} {em : Bool} {F La : Nat} (h : LcSt a lo en w bm vb n beh rdr D wr i vbi behi rdri em F La)
    (hbm : bm < w.heap.size) {W1 w3 : World} {gb cap1 : Nat} {beh1 rdr1 : Nat → Nat} {e2 : Bool} {F1 L1 F3 L3 : Nat} {e3 : Bool}
    (hL : Lays bm vb n beh rdr w (.slice (some ⟨gb, 0, none⟩) (n + a.size * i + a.size) cap1) (n + a.size * i + a.size) beh1 rdr1 W1)
    (hs : StrOk rdr1 beh1 (n + a.size * i) (n + a.size * i + a.size) e2 F1 L1 (Copy a.lang lo i en)) (hs0 : StrOk rdr1 beh1 n (n + a.size * i) em F La (Copies a.lang lo en i))
    (b0 : W1.heap[w.heap.size]? = some (.cells (nagg D) 92 (0, 0))) (b1 : W1.heap[w.heap.size + 1]? = some (.cells #[.bool false, .int .i64 0, .int .i64 0] 118 (0, 0))) (b2 : W1.heap[w.heap.size + 1 + 1]? = some (.cells #[.bool em, .int .i64 (F : Int), .int .i64 (La : Int)] 118 (0, 0)))
    (hm3 : MachAt w3 bm (.slice (some ⟨gb, 0, none⟩) (n + a.size * i + a.size) cap1) (n + a.size * i + a.size) (linkF beh1 La F1) rdr1) (ht3 : Touch (fun b => b = gb) W1 w3)
    (hF3 : (if em then F ||| F1 else F) = F3) (hL3 : (if e2 then L1 ||| La else L1) = L3) (he3 : (em && e2) = e3) :
    w3.heap[w.heap.size + 1 + 1]? = some (.cells #[.bool em, .int .i64 (F : Int), .int .i64 (La : Int)] 118 (0, 0)) ∧
    LcSt a lo en w bm vb n beh rdr D (((w3.setCell ⟨w.heap.size + 1 + 1, 0, none⟩ (.bool e3)).setCell ⟨w.heap.size + 1 + 1, 1, none⟩ (.int .i64 (F3 : Int))).setCell ⟨w.heap.size + 1 + 1, 2, none⟩ (.int .i64 (L3 : Int))) (i + 1) (.slice (some ⟨gb, 0, none⟩) (n + a.size * i + a.size) cap1) (linkF beh1 La F1) rdr1 e3 F3 L3 := by
  have hsz : n + a.size * (i + 1) = n + a.size * i + a.size := by rw [Nat.mul_succ]; omega
  have hLL : Lays bm vb n beh rdr w (.slice (some ⟨gb, 0, none⟩) (n + a.size * i + a.size) cap1) (n + a.size * i + a.size) (linkF beh1 La F1) rdr1 w3 := hL.linked hm3 ht3 (fun p hp => (hs0.la p hp).1)
  have c0 := keep_blk hL.mach (touch_gb ht3) b0 (by omega) (by decide)
  have c1 := keep_blk hL.mach (touch_gb ht3) b1 (by omega) (by decide)
  have c2 := keep_blk hL.mach (touch_gb ht3) b2 (by omega) (by decide)
  obtain ⟨h9, hb9⟩ := lays_set hLL c2 (by omega) (by omega) (by decide) (.bool e3) (.int .i64 (F3 : Int)) (.int .i64 (L3 : Int))
  refine ⟨c2, ⟨by rw [hsz]; exact h9, ?_, ?_, ?_, hb9⟩⟩
  · rw [hsz]
    have := hs0.chain hs
    rw [hF3, hL3, he3] at this
    exact this
  · exact heap_set_other (heap_set_other (heap_set_other c0 (by simp <;> omega)) (by simp <;> omega)) (by simp <;> omega)
  · exact heap_set_other (heap_set_other (heap_set_other c1 (by simp <;> omega)) (by simp <;> omega)) (by simp <;> omega)
set_option maxRecDepth 20000 in
set_option maxHeartbeats 8000000 in
theorem layCopies_ok (a : Pat) (HA : LayC a) (L : List Nd) (gn cap bm : Nat) (vb : Value) (n : Nat) (beh rdr : Nat → Nat) (w : World) (kind : Nat) (S : Nat → Bool) (lo co : Nat) (en : Bool) (ix t : Nat) (ha : NodeIs L ix a) (hin : LayIn w gn bm L vb n beh rdr) (hn : n + a.size * co ≤ 11) :
    Calls Try.prog 88 #[.pointer (some ⟨bm, 0, none⟩), .slice (some ⟨gn, 0, none⟩) L.length cap, .agg (nagg ⟨kind, a.size * co, S, lo, co, en, ix, t⟩)] w (LayPost bm vb n beh rdr (.rep a lo co en) w) := by
  have hbm : bm < w.heap.size := hin.mach.blk.lt
  obtain ⟨W, hW⟩ : ∃ W, W = ((w.alloc (.cells (nagg ⟨kind, a.size * co, S, lo, co, en, ix, t⟩) 92)).alloc (.cells #[.bool false, .int .i64 0, .int .i64 0] 118)).alloc (.cells #[.bool true, .int .i64 0, .int .i64 0] 118) := ⟨_, rfl⟩
  have BW : Below w.heap.size w W := by rw [hW]; exact (((Below.refl _ _).alloc (Nat.le_refl _) _).alloc (by simp) _).alloc (by simp; omega) _
  have hWs : W.heap.size = w.heap.size + 1 + 1 + 1 := by rw [hW]; simp
  have b0 : W.heap[w.heap.size]? = some (.cells (nagg ⟨kind, a.size * co, S, lo, co, en, ix, t⟩) 92 (0, 0)) := by rw [hW]; exact heap_at_old (heap_at_old (heap_at_new rfl))
  have b1 : W.heap[w.heap.size + 1]? = some (.cells #[.bool false, .int .i64 0, .int .i64 0] 118 (0, 0)) := by rw [hW]; exact heap_at_old (heap_at_new (by simp))
  have b2 : W.heap[w.heap.size + 1 + 1]? = some (.cells #[.bool true, .int .i64 0, .int .i64 0] 118 (0, 0)) := by rw [hW]; exact heap_at_new (by simp)
  obtain ⟨psz, HPS⟩ : ∃ x, Hid (a.size * co = x) := ⟨_, rfl⟩
  rw [HPS.out] at hW b0 hn ⊢
  have KC := nagg_cells b0
  have k1 := KC 1 (by omega)
  simp [nagg] at k1
  clear KC
  have hL0 : Lays bm vb n beh rdr w vb n beh rdr W := (Lays.refl hin.mach hin.fresh).grow BW
  unfold nagg at hW
  by_cases hz : psz = 0
  · have hz2 : ((psz : Int) == 0) = true := by simp [hz]
    have HZ : Hid (psz = 0) := hz
    have HPZ : Hid (a.size * co = 0) := by unfold Hid; rw [HPS.out]; exact hz
    clear hz
    obtain ⟨q0, q1, q2, p0, p1, p2⟩ := cell_three' b1
    obtain ⟨y0, y1, y2, _, _, _⟩ := cell_three' b2
    obtain ⟨hL9, hb9⟩ := lays_set hL0 b1 (by omega) (by omega) (by decide) (.bool true) (.int .i64 0) (.int .i64 0)
    obtain ⟨r0, r1, r2, _, _, _⟩ := cell_three' hb9
    have HR0 : Hid _ := r0
    have HR1 : Hid _ := r1
    have HR2 : Hid _ := r2
    clear r0 r1 r2 hb9
    unfold nagg
    go_enter Try.func88, Try.ntmps88
    go_upto_region 2 with fail
    rw [← hW]
    clear hW
    go_wp2_with fail
    have r0 := HR0.out
    have r1 := HR1.out
    have r2 := HR2.out
    refine bodyPost_ret (v := .agg #[.bool true, .int .i64 0, .int .i64 0]) (by simp [results, Try.results88, go_sem, r0, r1, r2]) rfl ?_
    have hsz : n + (Pat.rep a lo co en).size = n := by simp only [Pat.size]; rw [HPZ.out]; rfl
    refine ⟨true, 0, 0, vb, beh, rdr, rfl, by rw [hsz]; exact hL9, ?_⟩
    rw [hsz]
    exact (StrOk.nothing rdr beh n).lcongr (fun x => (size_zero (.rep a lo co en) HPZ.out x).symm)
  · have hz2 : ((psz : Int) == 0) = false := by simp; omega
    have hco : co ≤ 10 := by
      have hp := hin.pos
      have h1 : 1 ≤ a.size := by
        rcases Nat.eq_zero_or_pos a.size with h0 | h0
        · rw [h0, Nat.zero_mul] at HPS; exact absurd HPS.out.symm hz
        · exact h0
      have h2 : 1 * co ≤ a.size * co := Nat.mul_le_mul_right _ h1
      rw [HPS.out] at h2
      omega
    have HSTART : LcSt a lo en w bm vb n beh rdr ⟨kind, psz, S, lo, co, en, ix, t⟩ W 0 vb beh rdr true 0 0 := by
      refine ⟨by rw [Nat.mul_zero]; exact hL0, ?_, b0, b1, b2⟩
      rw [Nat.mul_zero]
      exact StrOk.nothing rdr beh n
    unfold nagg
    go_enter Try.func88, Try.ntmps88
    go_upto_region 2 with fail
    rw [← hW]
    clear hW
    go_wp2_with fail
    clear k1 b0 b1 b2 hL0 hz2
    go_loopw [8, 9] (fun i' _ wr => ∃ (i : Nat) (vbi : Value) (behi rdri : Nat → Nat) (em : Bool) (F La : Nat), i' = .int .i64 (i : Int) ∧ i ≤ co ∧ LcSt a lo en w bm vb n beh rdr ⟨kind, psz, S, lo, co, en, ix, t⟩ wr i vbi behi rdri em F La) (fun i' _ _ => 20 - (intOf i').toNat)
    case atStart => exact ⟨0, vb, beh, rdr, true, 0, 0, rfl, by omega, HSTART⟩
    case round =>
      clear HSTART
      obtain ⟨i, vbi, behi, rdri, em, F, La, rfl, hi, hS⟩ := hrel
      have KC := nagg_cells hS.nb
      have k10 := KC 10 (by omega)
      have k11 := KC 11 (by omega)
      have k12 := KC 12 (by omega)
      have k13 := KC 13 (by omega)
      simp [nagg] at k10 k11 k12 k13
      clear KC
      by_cases hlt : i < co
      · have hlt2 : (i : Int) < (co : Int) := by omega
        have hmul : a.size * i + a.size ≤ psz := by
          rw [← HPS.out, ← Nat.mul_succ]; exact Nat.mul_le_mul_left _ (by omega)
        have hin1 : LayIn wr gn bm L vbi (n + a.size * i) behi rdri := hin.laid hS.lays (by omega)
        have HC := HA L gn cap ix bm vbi (n + a.size * i) behi rdri wr ha hin1 (by omega)
        have HS : Hid (LcSt a lo en w bm vb n beh rdr ⟨kind, psz, S, lo, co, en, ix, t⟩ wr i vbi behi rdri em F La) := hS
        go_wp2_with fail
        refine HC.mono ?_
        clear HC
        rintro e w1 ⟨e1, F1, L1, vb1, beh1, rdr1, rfl, hl1, hs1⟩
        have c0 := keep_blk hin1.mach hl1.touch hS.nb (by omega) (by decide)
        have c1 := keep_blk hin1.mach hl1.touch hS.rb (by omega) (by decide)
        have c2 := keep_blk hin1.mach hl1.touch hS.wb (by omega) (by decide)
        have hz1 := hl1.touch.size
        have hzr := hS.lays.touch.size
        have hsL := heap_lt c2
        have hs0 := hS.str.laid hl1
        have hF0 := hs0.F_lt (by omega)
        have hLa0 := hs0.L_lt (by omega)
        have hF1 := hs1.F_lt (by omega)
        have hLa1 := hs1.L_lt (by omega)
        have hL1 : Lays bm vb n beh rdr w vb1 (n + a.size * i + a.size) beh1 rdr1 w1 := hS.lays.trans hl1 (by omega)
        obtain ⟨gb, cap1, rfl⟩ := hL1.mach.slice (by have := hin.pos; omega)
        have KC := nagg_cells c0
        have j10 := KC 10 (by omega)
        have j12 := KC 12 (by omega)
        simp [nagg] at j10 j12
        clear KC k10 k11 k12 k13 hS hin1 hl1
        have n0 : ¬ w.heap.size = w1.heap.size := by omega
        have n1 : ¬ w.heap.size + 1 = w1.heap.size := by omega
        have n2 : ¬ w.heap.size + 1 + 1 = w1.heap.size := by omega
        have m0 : w.heap.size < w1.heap.size := by omega
        have m1 : w.heap.size + 1 < w1.heap.size := by omega
        have m2 : w.heap.size + 1 + 1 < w1.heap.size := by omega
        by_cases hil : i < lo
        · have hil2 : ¬ (lo : Int) ≤ (i : Int) := by omega
          obtain ⟨W1, hW1⟩ : ∃ W, W = w1.alloc (.cells #[.bool e1, .int .i64 (F1 : Int), .int .i64 (L1 : Int)] 118) := ⟨_, rfl⟩
          have BW1 : Below w1.heap.size w1 W1 := by rw [hW1]; exact (Below.refl _ _).alloc (Nat.le_refl _) _
          have dp : W1.heap[w1.heap.size]? = some (.cells #[.bool e1, .int .i64 (F1 : Int), .int .i64 (L1 : Int)] 118 (0, 0)) := by rw [hW1]; exact heap_at_new rfl
          have hWs1 : W1.heap.size = w1.heap.size + 1 := by rw [hW1]; simp
          have dn : W1.heap[w.heap.size]? = some (.cells (nagg ⟨kind, psz, S, lo, co, en, ix, t⟩) 92 (0, 0)) := by rw [hW1]; exact heap_at_old c0
          have dr : W1.heap[w.heap.size + 1]? = some (.cells #[.bool false, .int .i64 0, .int .i64 0] 118 (0, 0)) := by rw [hW1]; exact heap_at_old c1
          have dw : W1.heap[w.heap.size + 1 + 1]? = some (.cells #[.bool em, .int .i64 (F : Int), .int .i64 (La : Int)] 118 (0, 0)) := by rw [hW1]; exact heap_at_old c2
          have hL2 := hL1.grow BW1
          go_upto_region 12 with fail
          rw [← hW1]
          clear hW1
          obtain ⟨F3, HF3⟩ : ∃ x, Hid ((if em then F ||| F1 else F) = x) := ⟨_, rfl⟩
          obtain ⟨L3, HL3⟩ : ∃ x, Hid ((if e1 then L1 ||| La else L1) = x) := ⟨_, rfl⟩
          obtain ⟨e3, HE3⟩ : ∃ x, Hid ((em && e1) = x) := ⟨_, rfl⟩
          have HC := mchain_ok bm gb (n + a.size * i + a.size) cap1 beh1 rdr1 em e1 F La F1 L1 W1 (by omega) hL2.mach hF0 hLa0 hF1 hLa1
          rw [HF3.out, HL3.out, HE3.out] at HC
          obtain ⟨s0, s1, s2, _, _, _⟩ := cell_three' dw
          obtain ⟨u0, u1, u2, _, _, _⟩ := cell_three' dp
          go_wp2_with fail
          refine HC.mono ?_
          clear HC
          rintro e w3 ⟨rfl, hm3, ht3⟩
          obtain ⟨f2, hS3⟩ := HS.out.next hbm hL2 (hs1.copyMust hil) hs0 dn dr dw hm3 ht3 HF3.out HL3.out HE3.out
          obtain ⟨q0, q1, q2, p0, p1, p2⟩ := cell_three' f2
          have HS3 : Hid _ := hS3
          clear hS3 hm3 ht3 s0 s1 s2 u0 u1 u2 dw dp dn dr j10 j12 HS
          go_wp2_with fail
          go_roundw
          case rel => exact ⟨i + 1, _, _, _, _, _, _, by go_num, by omega, HS3.out⟩
          case measure => simp [intOf]; omega
        · have hil2 : (lo : Int) ≤ (i : Int) := by omega
          cases en
          · obtain ⟨W1, hW1⟩ : ∃ W, W = w1.alloc (.cells #[.bool true, .int .i64 (F1 : Int), .int .i64 (L1 : Int)] 118) := ⟨_, rfl⟩
            have BW1 : Below w1.heap.size w1 W1 := by rw [hW1]; exact (Below.refl _ _).alloc (Nat.le_refl _) _
            have dp : W1.heap[w1.heap.size]? = some (.cells #[.bool true, .int .i64 (F1 : Int), .int .i64 (L1 : Int)] 118 (0, 0)) := by rw [hW1]; exact heap_at_new rfl
            have hWs1 : W1.heap.size = w1.heap.size + 1 := by rw [hW1]; simp
            have dn : W1.heap[w.heap.size]? = some (.cells (nagg ⟨kind, psz, S, lo, co, false, ix, t⟩) 92 (0, 0)) := by rw [hW1]; exact heap_at_old c0
            have dr : W1.heap[w.heap.size + 1]? = some (.cells #[.bool false, .int .i64 0, .int .i64 0] 118 (0, 0)) := by rw [hW1]; exact heap_at_old c1
            have dw : W1.heap[w.heap.size + 1 + 1]? = some (.cells #[.bool em, .int .i64 (F : Int), .int .i64 (La : Int)] 118 (0, 0)) := by rw [hW1]; exact heap_at_old c2
            have hL2 := hL1.grow BW1
            go_upto_region 12 with fail
            rw [← hW1]
            clear hW1
            obtain ⟨F3, HF3⟩ : ∃ x, Hid ((if em then F ||| F1 else F) = x) := ⟨_, rfl⟩
            obtain ⟨L3, HL3⟩ : ∃ x, Hid ((if true then L1 ||| La else L1) = x) := ⟨_, rfl⟩
            obtain ⟨e3, HE3⟩ : ∃ x, Hid ((em && true) = x) := ⟨_, rfl⟩
            have HC := mchain_ok bm gb (n + a.size * i + a.size) cap1 beh1 rdr1 em true F La F1 L1 W1 (by omega) hL2.mach hF0 hLa0 hF1 hLa1
            rw [HF3.out, HL3.out, HE3.out] at HC
            obtain ⟨s0, s1, s2, _, _, _⟩ := cell_three' dw
            obtain ⟨u0, u1, u2, _, _, _⟩ := cell_three' dp
            go_wp2_with fail
            refine HC.mono ?_
            clear HC
            rintro e w3 ⟨rfl, hm3, ht3⟩
            obtain ⟨f2, hS3⟩ := HS.out.next hbm hL2 (hs1.copyOpt hil) hs0 dn dr dw hm3 ht3 HF3.out HL3.out HE3.out
            obtain ⟨q0, q1, q2, p0, p1, p2⟩ := cell_three' f2
            have HS3 : Hid _ := hS3
            clear hS3 hm3 ht3 s0 s1 s2 u0 u1 u2 dw dp dn dr j10 j12 HS
            go_wp2_with fail
            go_roundw
            case rel => exact ⟨i + 1, _, _, _, _, _, _, by go_num, by omega, HS3.out⟩
            case measure => simp [intOf]; omega
          · obtain ⟨W1, hW1⟩ : ∃ W, W = w1.alloc (.cells #[.bool true, .int .i64 (F1 : Int), .int .i64 (L1 : Int)] 118) := ⟨_, rfl⟩
            have BW1 : Below w1.heap.size w1 W1 := by rw [hW1]; exact (Below.refl _ _).alloc (Nat.le_refl _) _
            have dp : W1.heap[w1.heap.size]? = some (.cells #[.bool true, .int .i64 (F1 : Int), .int .i64 (L1 : Int)] 118 (0, 0)) := by rw [hW1]; exact heap_at_new rfl
            have hWs1 : W1.heap.size = w1.heap.size + 1 := by rw [hW1]; simp
            have dn : W1.heap[w.heap.size]? = some (.cells (nagg ⟨kind, psz, S, lo, co, true, ix, t⟩) 92 (0, 0)) := by rw [hW1]; exact heap_at_old c0
            have dr : W1.heap[w.heap.size + 1]? = some (.cells #[.bool false, .int .i64 0, .int .i64 0] 118 (0, 0)) := by rw [hW1]; exact heap_at_old c1
            have dw : W1.heap[w.heap.size + 1 + 1]? = some (.cells #[.bool em, .int .i64 (F : Int), .int .i64 (La : Int)] 118 (0, 0)) := by rw [hW1]; exact heap_at_old c2
            have hL2 := hL1.grow BW1
            go_upto_region 11 with fail
            rw [← hW1]
            clear hW1
            have HC := mlink_ok bm gb (n + a.size * i + a.size) cap1 beh1 rdr1 L1 F1 W1 (by omega) hL2.mach hLa1 hF1
            obtain ⟨u0, u1, u2, _, _, _⟩ := cell_three' dp
            go_wp2_with fail
            refine HC.mono ?_
            clear HC
            rintro e w2 ⟨rfl, hm2, ht2⟩
            have hL2' : Lays bm vb n beh rdr w (.slice (some ⟨gb, 0, none⟩) (n + a.size * i + a.size) cap1) (n + a.size * i + a.size) (linkF beh1 L1 F1) rdr1 w2 := hL2.linked hm2 ht2 (fun p hp => by have := (hs1.la p hp).1; omega)
            have hs0' : StrOk rdr1 (linkF beh1 L1 F1) n (n + a.size * i) em F La (Copies a.lang lo true i) := hs0.later (fun p _ hp => linkF_out (by
              cases hb : L1.testBit p
              · rfl
              · have := (hs1.la p hb).1; omega)) (fun _ _ _ => rfl)
            have dn2 := keep_blk hL2.mach (touch_gb ht2) dn (by omega) (by decide)
            have dr2 := keep_blk hL2.mach (touch_gb ht2) dr (by omega) (by decide)
            have dw2 := keep_blk hL2.mach (touch_gb ht2) dw (by omega) (by decide)
            have dp2 := keep_blk hL2.mach (touch_gb ht2) dp (by omega) (by decide)
            have hz2 := ht2.size
            clear dn dr dw dp u0 u1 u2 hm2 ht2
            have dn := dn2
            have dr := dr2
            have dw := dw2
            have dp := dp2
            clear dn2 dr2 dw2 dp2
            obtain ⟨F3, HF3⟩ : ∃ x, Hid ((if em then F ||| F1 else F) = x) := ⟨_, rfl⟩
            obtain ⟨L3, HL3⟩ : ∃ x, Hid ((if true then L1 ||| La else L1) = x) := ⟨_, rfl⟩
            obtain ⟨e3, HE3⟩ : ∃ x, Hid ((em && true) = x) := ⟨_, rfl⟩
            have HC := mchain_ok bm gb (n + a.size * i + a.size) cap1 (linkF beh1 L1 F1) rdr1 em true F La F1 L1 w2 (by omega) hL2'.mach hF0 hLa0 hF1 hLa1
            rw [HF3.out, HL3.out, HE3.out] at HC
            obtain ⟨s0, s1, s2, _, _, _⟩ := cell_three' dw
            obtain ⟨u0, u1, u2, _, _, _⟩ := cell_three' dp
            go_wp2_with fail
            refine HC.mono ?_
            clear HC
            rintro e w3 ⟨rfl, hm3, ht3⟩
            obtain ⟨f2, hS3⟩ := HS.out.next hbm hL2' (hs1.copyStar hil) hs0' dn dr dw hm3 ht3 HF3.out HL3.out HE3.out
            obtain ⟨q0, q1, q2, p0, p1, p2⟩ := cell_three' f2
            have HS3 : Hid _ := hS3
            clear hS3 hm3 ht3 s0 s1 s2 u0 u1 u2 dw dp dn dr j10 j12 HS
            go_wp2_with fail
            go_roundw
            case rel => exact ⟨i + 1, _, _, _, _, _, _, by go_num, by omega, HS3.out⟩
            case measure => simp [intOf]; omega
      · have hlt2 : ¬ (i : Int) < (co : Int) := by omega
        obtain rfl : i = co := by omega
        obtain ⟨q0, q1, q2, p0, p1, p2⟩ := cell_three' hS.rb
        obtain ⟨y0, y1, y2, _, _, _⟩ := cell_three' hS.wb
        obtain ⟨hL9, hb9⟩ := lays_set hS.lays hS.rb (by omega) (by omega) (by decide) (.bool em) (.int .i64 (F : Int)) (.int .i64 (La : Int))
        obtain ⟨r0, r1, r2, _, _, _⟩ := cell_three' hb9
        have HR0 : Hid _ := r0
        have HR1 : Hid _ := r1
        have HR2 : Hid _ := r2
        have HST : Hid _ := hS.str
        clear r0 r1 r2 hb9 hS
        go_wp2_with fail
        have r0 := HR0.out
        have r1 := HR1.out
        have r2 := HR2.out
        refine bodyPost_ret (v := .agg #[.bool em, .int .i64 (F : Int), .int .i64 (La : Int)]) (by simp [results, Try.results88, go_sem, r0, r1, r2]) rfl ?_
        exact ⟨em, F, La, vbi, behi, rdri, rfl, hL9, HST.out⟩
set_option maxRecDepth 20000 in
set_option maxHeartbeats 8000000 in
theorem lay_rep (a : Pat) (HA : LayC a) (L : List Nd) (gn cap i bm : Nat) (vb : Value) (n : Nat) (beh rdr : Nat → Nat) (w : World) (S : Nat → Bool) (lo co : Nat) (en : Bool) (ix t : Nat) (hd : L[i]? = some ⟨4, a.size * co, S, lo, co, en, ix, t⟩) (ha : NodeIs L ix a) (hin : LayIn w gn bm L vb n beh rdr) (hn : n + a.size * co ≤ 11) :
    Calls Try.prog 71 #[.pointer (some ⟨bm, 0, none⟩), .slice (some ⟨gn, 0, none⟩) L.length cap, .int .i64 (i : Int)] w (LayPost bm vb n beh rdr (.rep a lo co en) w) := by
  obtain ⟨psz, HPS⟩ : ∃ x, Hid (a.size * co = x) := ⟨_, rfl⟩
  rw [HPS.out] at hd
  have hlt : i < L.length := (List.getElem?_eq_some_iff.1 hd).1
  have hbm : bm < w.heap.size := hin.mach.blk.lt
  have hgn : gn < w.heap.size := by have := hin.ahead; omega
  have hgne : ¬ gn = w.heap.size := by omega
  have NC := hin.nod i _ hd
  have n0 := NC 0 (by omega)
  have n1 := NC 1 (by omega)
  have n2 := NC 2 (by omega)
  have n3 := NC 3 (by omega)
  have n4 := NC 4 (by omega)
  have n5 := NC 5 (by omega)
  have n6 := NC 6 (by omega)
  have n7 := NC 7 (by omega)
  have n8 := NC 8 (by omega)
  have n9 := NC 9 (by omega)
  have n10 := NC 10 (by omega)
  have n11 := NC 11 (by omega)
  have n12 := NC 12 (by omega)
  have n13 := NC 13 (by omega)
  have n14 := NC 14 (by omega)
  simp [nagg] at n0 n1 n2 n3 n4 n5 n6 n7 n8 n9 n10 n11 n12 n13 n14
  clear NC
  obtain ⟨W, hW⟩ : ∃ W, W = (w.alloc (.cells #[.bool false, .int .i64 0, .int .i64 0] 118)).alloc (.cells (nagg ⟨4, psz, S, lo, co, en, ix, t⟩) 92) := ⟨_, rfl⟩
  have BW : Below w.heap.size w W := by rw [hW]; exact ((Below.refl _ _).alloc (Nat.le_refl _) _).alloc (by simp) _
  have hWs : W.heap.size = w.heap.size + 1 + 1 := by rw [hW]; simp
  have b0 : W.heap[w.heap.size]? = some (.cells #[.bool false, .int .i64 0, .int .i64 0] 118 (0, 0)) := by rw [hW]; exact heap_at_old (heap_at_new rfl)
  have b1 : W.heap[w.heap.size + 1]? = some (.cells (nagg ⟨4, psz, S, lo, co, en, ix, t⟩) 92 (0, 0)) := by rw [hW]; exact heap_at_new (by simp)
  have hin1 := hin.below BW
  have KC := nagg_cells b1
  have k0 := KC 0 (by omega)
  have k1 := KC 1 (by omega)
  have k2 := KC 2 (by omega)
  have k3 := KC 3 (by omega)
  have k4 := KC 4 (by omega)
  have k5 := KC 5 (by omega)
  have k6 := KC 6 (by omega)
  have k7 := KC 7 (by omega)
  have k8 := KC 8 (by omega)
  have k9 := KC 9 (by omega)
  have k10 := KC 10 (by omega)
  have k11 := KC 11 (by omega)
  have k12 := KC 12 (by omega)
  have k13 := KC 13 (by omega)
  have k14 := KC 14 (by omega)
  simp [nagg] at k0 k1 k2 k3 k4 k5 k6 k7 k8 k9 k10 k11 k12 k13 k14
  clear KC
  unfold nagg at hW
  simp only [show ((0 : Nat) : Int) = 0 from rfl, show ((1 : Nat) : Int) = 1 from rfl, show ((2 : Nat) : Int) = 2 from rfl, show ((3 : Nat) : Int) = 3 from rfl, show ((4 : Nat) : Int) = 4 from rfl] at hW
  go_enter Try.func71, Try.ntmps71
  go_upto_region 2 with fail
  rw [← hW]
  clear hW n0 n1 n2 n3 n4 n5 n6 n7 n8 n9 n10 n11 n12 n13 n14
  have HC := layCopies_ok a HA L gn cap bm vb n beh rdr W 4 S lo co en ix t ha hin1 hn
  rw [HPS.out] at HC
  unfold nagg at HC
  simp only [show ((4 : Nat) : Int) = 4 from rfl] at HC
  go_wp2_with fail
  refine HC.mono ?_
  clear HC
  rintro e w1 ⟨e1, F1, L1, vb1, beh1, rdr1, rfl, hl1, hs1⟩
  have c0 := keep_blk hin1.mach hl1.touch b0 (by omega) (by decide)
  have hL1 : Lays bm vb n beh rdr w vb1 (n + (Pat.rep a lo co en).size) beh1 rdr1 w1 := hl1.pre BW
  clear k0 k1 k2 k3 k4 k5 k6 k7 k8 k9 k10 k11 k12 k13 k14 hl1
  obtain ⟨q0, q1, q2, p0, p1, p2⟩ := cell_three' c0
  obtain ⟨hL9, hb9⟩ := lays_set hL1 c0 (Nat.le_refl _) (by omega) (by decide) (.bool e1) (.int .i64 (F1 : Int)) (.int .i64 (L1 : Int))
  obtain ⟨r0, r1, r2, _, _, _⟩ := cell_three' hb9
  have HR0 : Hid _ := r0
  have HR1 : Hid _ := r1
  have HR2 : Hid _ := r2
  clear r0 r1 r2 hb9
  go_wp2_with fail
  have r0 := HR0.out
  have r1 := HR1.out
  have r2 := HR2.out
  refine bodyPost_ret (v := .agg #[.bool e1, .int .i64 (F1 : Int), .int .i64 (L1 : Int)]) (by simp [results, Try.results71, go_sem, r0, r1, r2]) rfl ?_
  exact ⟨e1, F1, L1, vb1, beh1, rdr1, rfl, hL9, hs1⟩
theorem lay_all (p : Pat) : LayC p := by
  induction p with
  | none =>
    intro L gn cap i bm vb n beh rdr w h hin hn
    cases h with
    | none hd hk hs =>
      rename_i d
      obtain ⟨k, sz, S, le, co, en, o, t⟩ := d
      obtain rfl : k = 0 := hk
      exact lay_none L gn cap i bm vb n beh rdr w sz S le co en o t hd hin
  | one S =>
    intro L gn cap i bm vb n beh rdr w h hin hn
    cases h with
    | one hd hk hs hS =>
      rename_i d
      obtain ⟨k, sz, S', le, co, en, o, t⟩ := d
      obtain rfl : k = 1 := hk
      obtain rfl : S' = S := hS
      exact lay_one L gn cap i bm vb n beh rdr w sz S' le co en o t hd hin (by simp only [Pat.size] at hn; omega)
  | chain a b iha ihb =>
    intro L gn cap i bm vb n beh rdr w h hin hn
    cases h with
    | chain hd hk hs ho ht h1 h2 =>
      rename_i d
      obtain ⟨k, sz, S', le, co, en, o, t⟩ := d
      obtain rfl : k = 2 := hk
      subst ho ht
      exact lay_chain a b iha ihb L gn cap i bm vb n beh rdr w sz S' le co en o t hd h1 h2 hin hn
  | alt a b iha ihb =>
    intro L gn cap i bm vb n beh rdr w h hin hn
    cases h with
    | alt hd hk hs ho ht h1 h2 =>
      rename_i d
      obtain ⟨k, sz, S', le, co, en, o, t⟩ := d
      obtain rfl : k = 3 := hk
      subst ho ht
      exact lay_alt a b iha ihb L gn cap i bm vb n beh rdr w sz S' le co en o t hd h1 h2 hin hn
  | rep a lo co en iha =>
    intro L gn cap i bm vb n beh rdr w h hin hn
    cases h with
    | rep hd hk hs ho hl hc he h1 =>
      rename_i d
      obtain ⟨k, sz, S', le, co', en', o, t⟩ := d
      obtain rfl : k = 4 := hk
      simp only at hs ho hl hc he
      subst ho hl hc he hs
      exact lay_rep a iha L gn cap i bm vb n beh rdr w S' le co' en' o t hd h1 hin hn
end Go.Proofs.Ytpngikmcjkjdaab
