import Derived.BigQuiet
import Derived.Deep.QuietTactic
import Derived.Deep.Slices
import Derived.OpenShut
import Derived.SizedLaws
import Derived.Test.YtpngikmcjkjdaaaGreatDoorG20
import Derived.Test.YtpngikmcjkjdaaaGreatDoorG22
import Derived.Test.YtpngikmcjkjdaaaGreatDoorG24
set_option linter.unusedVariables false
set_option linter.unusedSimpArgs false
namespace Go.Proofs.YtpngikmcjkjdaaaGreatDoor
open Go.RowKit
set_option linter.unusedVariables false
def StepPost (W0 : Fw) (bw n : Nat) (e : Ending) (w' : World) : Prop := e = .returned (.bool true) ∧ ∃ vts' hs', WdAt W0 w' bw vts' hs' ∧ hs'.length ≤ n + 1
theorem Tryz.infoH : (Tryz.prog.info? 36).map (fun i => (i.zero, i.size, i.bytes)) = some (some (.pointer none), 1, 8) := by kernel_rfl
set_option maxRecDepth 20000 in
set_option maxHeartbeats 4000000 in
theorem step_table (W0 : Fw) (w : World) (bw : Nat) (vts : Value) (hs : List Hd) (h : WdAt W0 w bw vts hs) (a b c d : Int) (s : ByteArray) (lo : Option Addr) (ll lc : Nat) (z : Nat → Int) (hL : LCode w lo ll z) (hn : hs.length ≤ 4398046511104) :
    Calls Tryz.prog 12 #[.pointer (some ⟨bw, 0, none⟩), .agg #[.int .i64 1, .int .i64 a, .int .i64 b, .int .i64 c, .int .i64 d, .string s, .slice lo ll lc]] w (StepPost W0 bw hs.length) := by
  obtain ⟨i0, hi0, hz0, hz01, hz02⟩ := info_parts Tryz.infoH
  obtain ⟨W, hW⟩ : ∃ W, W = w.alloc (.cells #[.int .i64 1, .int .i64 a, .int .i64 b, .int .i64 c, .int .i64 d, .string s, .slice lo ll lc] 33) := ⟨_, rfl⟩
  have BW : Below w.heap.size w W := by rw [hW]; exact (Below.refl _ _).alloc (Nat.le_refl _) _
  have hWs : w.heap.size < W.heap.size := by rw [hW]; simp
  have b0 : W.heap[w.heap.size]? = some (.cells #[.int .i64 1, .int .i64 a, .int .i64 b, .int .i64 c, .int .i64 d, .string s, .slice lo ll lc] 33 (0, 0)) := by rw [hW]; exact heap_at_new rfl
  have HC := raw_mk lo ll lc z b W (hL.below BW)
  obtain ⟨x0, _, x2, _, _, _, x6⟩ := cell_seven b0
  go_enter Tryz.func12, Tryz.ntmps12
  go_upto_region 1 with fail
  rw [← hW]
  clear hW
  go_wp2_with fail
  refine HC.mono ?_
  rintro e w1 ⟨hB1, t, A, X, rfl, hT, ra, rn, rr, drr⟩
  have hs1 := hB1.size
  have HC2 := hold_ok t A X W.heap.size w1 hT ra rn rr drr
  clear HC x0 x2 x6
  go_wp2_with fail
  refine HC2.mono ?_
  rintro e w2 ⟨hB2, dd, rfl, hD, _, _, _, hlo, _⟩
  have hs2 := hB2.size
  have hB : Below w.heap.size w w2 := (BW.trans (hB1.mono (by omega))).trans (hB2.mono (by omega))
  have h2 := h.below hB
  obtain ⟨y0, y1, y2, y3⟩ := cell_three h2.blk
  have hbs := heap_lt h2.blk
  have hna := (h2.below ((Below.refl _ _).alloc (Nat.le_refl _) (.cells #[.pointer (some ⟨dd.bh, 0, none⟩)] 36))).own
  have HG : ∀ (g cap : Nat) (w3 : World), w3.ownsRow (bw + 1) 36 1 (.slice (some ⟨g, 0, none⟩) (hs.length + 1) cap) (hs.length + 1) (ptrs hs ++ [.pointer (some ⟨dd.bh, 0, none⟩)]) → (w2.alloc (.cells #[.pointer (some ⟨dd.bh, 0, none⟩)] 36)).grownBy w3 vts.ownBlock → (vts.ownBlock = some g ∨ g = (w2.alloc (.cells #[.pointer (some ⟨dd.bh, 0, none⟩)] 36)).heap.size) →
      w3.heap[bw]? = some (.cells #[vts, W0.vbs, W0.vtx] 31 (0, 0)) ∧ Hid (WdAt W0 (w3.setCell ⟨bw, 0, none⟩ (.slice (some ⟨g, 0, none⟩) (hs.length + 1) cap)) bw (.slice (some ⟨g, 0, none⟩) (hs.length + 1) cap) (hs ++ [dd])) := by
    intro g cap w3 ho hg hf
    exact h.add hB hD (by omega) ho hg hf
  clear HC2 hB1 hB2 hT hL
  go_wp2_with (at_builtin; refine wpList_append_fresh _ rfl _ _ 27 rfl (bw + 1) 36 i0 (.pointer none) 1 8 Tryz.underlying27 hi0 hz0 hz01 hz02 rfl (by decide) _ hs.length _ rfl hna ⟨w2.heap.size, 0, none⟩ 1 1 [.pointer (some ⟨dd.bh, 0, none⟩)] rfl rfl (cell_one_new _ _ _) (by intro u hu; simp at hu; subst hu; rfl) (by decide) (by unfold maxLen; omega) (by omega) (by simp; omega) ?_; intro g cap w3 hown hgr hfr; obtain ⟨f0, F⟩ := HG g cap w3 hown hgr hfr; obtain ⟨f1, f2, f3, f4⟩ := cell_three f0)
  go_ret
  exact ⟨rfl, _, _, F.out, by simp⟩
set_option maxRecDepth 20000 in
set_option maxHeartbeats 4000000 in
theorem step_write (W0 : Fw) (w : World) (bw : Nat) (vts : Value) (hs : List Hd) (h : WdAt W0 w bw vts hs) (a b c d : Int) (s : ByteArray) (lo : Option Addr) (ll lc : Nat) (hn : hs.length ≤ 4398046511104)
    (ha : -9223372036854775808 ≤ a ∧ a ≤ 9223372036854775807) (hb : -9223372036854775808 ≤ b ∧ b ≤ 9223372036854775807) (hc : -9223372036854775808 ≤ c ∧ c ≤ 9223372036854775807) :
    Calls Tryz.prog 12 #[.pointer (some ⟨bw, 0, none⟩), .agg #[.int .i64 2, .int .i64 a, .int .i64 b, .int .i64 c, .int .i64 d, .string s, .slice lo ll lc]] w (StepPost W0 bw hs.length) := by
  obtain ⟨W, hW⟩ : ∃ W, W = w.alloc (.cells #[.int .i64 2, .int .i64 a, .int .i64 b, .int .i64 c, .int .i64 d, .string s, .slice lo ll lc] 33) := ⟨_, rfl⟩
  have BW : Below w.heap.size w W := by rw [hW]; exact (Below.refl _ _).alloc (Nat.le_refl _) _
  have hWs : w.heap.size < W.heap.size := by rw [hW]; simp
  have b0 : W.heap[w.heap.size]? = some (.cells #[.int .i64 2, .int .i64 a, .int .i64 b, .int .i64 c, .int .i64 d, .string s, .slice lo ll lc] 33 (0, 0)) := by rw [hW]; exact heap_at_new rfl
  have h1 := h.below BW
  obtain ⟨x0, x1, x2, x3, x4, _, _⟩ := cell_seven b0
  obtain ⟨y0, y1, y2, y3⟩ := cell_three h1.blk
  obtain ⟨al, cl, rfl, hal⟩ := ownsRow_shape h1.own
  go_enter Tryz.func12, Tryz.ntmps12
  go_upto_region 1 with fail
  rw [← hW]
  clear hW
  by_cases h0 : hs.length = 0
  · rw [h0] at y0
    have HF : Hid _ := h1
    go_wp2_with fail
    go_ret
    exact ⟨rfl, _, _, HF.out, by omega⟩
  · obtain ⟨gl, rfl, hcl⟩ := hal (by omega)
    obtain ⟨pi, HPI⟩ : ∃ x, Hid (lpickN a hs.length = x) := ⟨_, rfl⟩
    have hpi : pi < hs.length := by rw [← HPI.out]; exact lpickN_lt _ _ (by omega)
    have HP := lpick_ok a hs.length W.drew (by omega) (by omega) ha.1 ha.2
    rw [Int.toNat_natCast, HPI.out] at HP
    have z0 := (hcl pi (by omega)).trans (ptrs_at hs pi hpi)
    have HQ := write_ok hs[pi] b c d W.drew ((h1.hds _ (List.getElem_mem hpi)).below ((Below.refl _ _).drew)) hb.1 hb.2 hc.1 hc.2
    have HF : Hid (WdAt W0 W.drew bw (.slice (some ⟨gl, 0, none⟩) hs.length cl) hs) := h1.below ((Below.refl _ _).drew)
    have v0 := HF.out.lo _ (List.getElem_mem hpi)
    have v1 := (HF.out.hds _ (List.getElem_mem hpi)).siz
    have v2 := HF.out.tsf gl rfl _ (List.getElem_mem hpi)
    have v3 : hs[pi].hi ≤ w.heap.size := (h.hds _ (List.getElem_mem hpi)).siz
    have v4 := (HF.out.own.lt gl rfl).2
    have v5 := heap_lt HF.out.blk
    obtain ⟨dd, HDD⟩ : ∃ x, Hid (hs[pi] = x) := ⟨hs[pi], by unfold Hid; rfl⟩
    rw [HDD.out] at z0 HQ v0 v1 v2 v3
    have KK : ∀ (w' : World) (k o : Nat), Touch (fun b => dd.lo ≤ b ∧ b < dd.hi) W.drew w' → k < W.heap.size → ¬ (dd.lo ≤ k ∧ k < dd.hi) → w'.cell? ⟨k, o, none⟩ = W.cell? ⟨k, o, none⟩ := fun w' k o ht hk hne => World.cell?_of_block (a := ⟨k, o, none⟩) (ht.block k hk hne)
    have hgt : (0 : Int) < (hs.length : Int) := by omega
    have hgt2 : (pi : Int) < (hs.length : Int) := by omega
    clear h1 h hcl hal
    go_upto_region 8 with fail
    go_region_held3 (fun w' => w'.cell? ⟨bw, 0, none⟩ = some (.slice (some ⟨gl, 0, none⟩) hs.length cl) ∧ w'.cell? ⟨w.heap.size, 1, none⟩ = some (.int .i64 a) ∧ w'.cell? ⟨w.heap.size, 2, none⟩ = some (.int .i64 b) ∧ w'.cell? ⟨w.heap.size, 3, none⟩ = some (.int .i64 c) ∧ w'.cell? ⟨w.heap.size, 4, none⟩ = some (.int .i64 d) ∧ w'.cell? ⟨gl, pi, none⟩ = some (.pointer (some ⟨dd.bh, 0, none⟩))) (go_keep)
      ((first
        | (go_at_call 16; refine HP.mono ?_; rintro e w' ⟨rfl, hw'⟩; obtain rfl : W.drew = w' := hw'.symm)
        | (go_at_call 17; refine HQ.mono ?_; rintro e w' ⟨rfl, A, X, hD, hT⟩; have u0 := (KK w' bw 0 hT (by simpa using v5) (by omega)).trans y0; have u1 := (KK w' w.heap.size 1 hT (by omega) (by omega)).trans x1; have u2 := (KK w' w.heap.size 2 hT (by omega) (by omega)).trans x2; have u3 := (KK w' w.heap.size 3 hT (by omega) (by omega)).trans x3; have u4 := (KK w' w.heap.size 4 hT (by omega) (by omega)).trans x4; have u5 := (KK w' gl pi hT (by simpa using v4) (by omega)).trans z0; have HD2 : Hid (HdAt w' { dd with A := A, X := X }) := hD; have HT2 : Hid (Touch (fun b => dd.lo ≤ b ∧ b < dd.hi) W.drew w') := hT; clear hD hT)))
    all_goals go_wp2_with fail
    all_goals go_ret
    all_goals
      have hD := HD2.out
      have hT := HT2.out
      rw [← HDD.out] at hD hT
      exact ⟨rfl, _, _, HF.out.put hpi hD hT, by simp⟩
set_option maxRecDepth 20000 in
set_option maxHeartbeats 4000000 in
theorem looks_ok (Wo w : World) (bw : Nat) (vts : Value) (hs : List Hd) (h : WdAt (.plain Wo) w bw vts hs) (hn : hs.length ≤ 4398046511104) :
    Calls Tryz.prog 13 #[.pointer (some ⟨bw, 0, none⟩)] w fun e w' => e = .returned (.bool true) ∧ Below w.heap.size w w' := by
  obtain ⟨al, cl, rfl, hal⟩ := ownsRow_shape h.own
  go_enter Tryz.func13, Tryz.ntmps13
  go_wp2_with fail
  go_loopw [3, 4] (fun i' _ wr => ∃ i : Nat, i ≤ hs.length ∧ i' = .int .i64 i ∧ Below w.heap.size w wr) (fun i' _ _ => hs.length - (intOf i').toNat)
  case atStart => exact ⟨0, by omega, rfl, Below.refl _ _⟩
  case round =>
    obtain ⟨i, hi, rfl, hb⟩ := hrel
    have hr := h.below hb
    obtain ⟨y0, y1, y2, y3⟩ := cell_three hr.blk
    replace y2 : wr.cell? ⟨bw, 2, none⟩ = some (.slice none 0 0) := y2
    by_cases hlt : i < hs.length
    · obtain ⟨gl, rfl, hcl⟩ := hal (by omega)
      have z0 : wr.cell? ⟨gl, i, none⟩ = some (.pointer (some ⟨hs[i].bh, 0, none⟩)) := by
        have := (hcl i (by omega)).trans (ptrs_at hs i hlt)
        rw [(bcell hb).1 _ _ (lt_of_cell this)]; exact this
      have HC := still_ok hs[i] wr (hr.hds _ (List.getElem_mem hlt))
      obtain ⟨dd, HDD⟩ : ∃ x, Hid (hs[i] = x) := ⟨hs[i], by unfold Hid; rfl⟩
      rw [HDD.out] at z0 HC
      have HB : Hid _ := hb
      have hbs := hb.size
      clear hr hcl hal hb
      go_wp2_with fail
      refine HC.mono ?_
      rintro e w1 ⟨rfl, hB1⟩
      clear HC
      go_wp2_with fail
      go_roundw
      case rel => exact ⟨i + 1, by omega, by go_num, HB.out.trans (hB1.mono hbs)⟩
      case measure => simp [intOf]; omega
    · have he : i = hs.length := by omega
      subst he
      have HB : Hid _ := hb
      clear hr hal hb
      go_wp2_with fail
      go_loopw [5, 6] (fun i' _ wi => i' = .int .i64 0 ∧ wi = wr) (fun _ _ _ => 0)
      case atStart => exact ⟨rfl, rfl⟩
      case round =>
        obtain ⟨rfl, hw⟩ := hrel
        subst hw
        go_wp2_with fail
        go_ret
        exact ⟨rfl, HB.out⟩
end Go.Proofs.YtpngikmcjkjdaaaGreatDoor
namespace Go.Proofs.YtpngikmcjkjdaaaGreatDoor
open Go.RowKit
set_option linter.unusedVariables false
def Lay.raw (V : Lay) (n : Nat) : RLay := ⟨some ⟨V.ba, V.oa, none⟩, some ⟨V.bn, V.on, none⟩, n, V.ca, n, V.cn, fun i => some ⟨V.rb i, V.ro i, none⟩, fun _ => 8, V.rc⟩
theorem TabAt.raw {w : World} {V : Lay} {M : Tab} (h : TabAt w V M) (hM : M.Ok) : RawAt w (V.raw M.n) M.acc (fun i c => (M.nxt i c : Int)) := by
  have := hM.hi
  exact ⟨by simp only [Lay.raw]; omega, by simp only [Lay.raw]; omega, fun i hi => by simp only [Lay.raw]; omega, fun i hi => ⟨_, _, rfl, h.acc i hi⟩, fun i hi => ⟨_, _, rfl, h.row i hi⟩, fun i c hi hc => ⟨_, _, rfl, h.cel i c hi hc⟩⟩
end Go.Proofs.YtpngikmcjkjdaaaGreatDoor
namespace Go.Proofs.YtpngikmcjkjdaaaGreatDoor
open Go.RowKit
set_option linter.unusedVariables false
def Lay.tl (V : Lay) (n : Nat) : TL := ⟨V.ba, n, n, V.bn, n, n, V.rb, fun _ => 8, fun _ => 8⟩
theorem rowTo_of {w : World} {b t n : Nat} {f : Nat → Value} (hs : ∃ c, w.heap[b]? = some (.cells c t (0, 0)) ∧ n ≤ c.size) (hc : ∀ i, i < n → w.cell? ⟨b, i, none⟩ = some (f i)) : RowTo w b t n f := by
  obtain ⟨c, hb, hn⟩ := hs
  refine ⟨c, hb, hn, fun i hi => ?_⟩
  have := hc i hi
  rw [cell_of_row w b i c t (0, 0) hb] at this
  exact this
theorem tl_of_fresh {w : World} {V : Lay} {R : Tab} (hT : TabAt w V R) (hF : Fresh w V R.n) (h1 : 1 ≤ R.n) (h2 : R.n ≤ 40) : TLAt w (V.tl R.n) R.acc (fun i c => (R.nxt i c : Int)) where
  na := Nat.le_refl _
  ca := by show R.n ≤ _; omega
  ca1 := h1
  nn := Nat.le_refl _
  cn := by show R.n ≤ _; omega
  cn1 := h1
  rl i _ := Nat.le_refl _
  rc i _ := by show 8 ≤ 1000000; omega
  acc := rowTo_of hF.sa (fun i hi => by have := hT.acc i hi; rw [hF.oa, Nat.zero_add] at this; exact this)
  nxt := rowTo_of hF.sn (fun i hi => by
    have := hT.row i hi
    rw [hF.on, Nat.zero_add, (hF.ro i hi).1, (hF.ro i hi).2] at this
    exact this)
  row i hi _ := rowTo_of (hF.sr i hi) (fun c hc => by have := hT.cel i c hi hc; rw [(hF.ro i hi).1, Nat.zero_add] at this; exact this)
theorem tab_raw {w : World} {V : Lay} {R : Tab} (hT : TabAt w V R) (h2 : R.n ≤ 40) : RawAt w ⟨some ⟨V.ba, V.oa, none⟩, some ⟨V.bn, V.on, none⟩, R.n, V.ca, R.n, V.cn, fun i => some ⟨V.rb i, V.ro i, none⟩, fun _ => 8, V.rc⟩ R.acc (fun i c => (R.nxt i c : Int)) where
  la := by show R.n ≤ _; omega
  ln := by show R.n ≤ _; omega
  lr i _ := by show 8 ≤ _; omega
  acc i hi := ⟨_, _, rfl, hT.acc i hi⟩
  row i hi := ⟨_, _, rfl, hT.row i hi⟩
  cel i c hi hc := ⟨_, _, rfl, hT.cel i c hi hc⟩
theorem RawAt.congr {w : World} {r : RLay} {A A' : Nat → Bool} {X X' : Nat → Nat → Int} (h : RawAt w r A X) (hA : ∀ i, i < r.na → A i = A' i) (hX : ∀ i c, i < r.nn → c < r.rl i → X i c = X' i c) : RawAt w r A' X' where
  la := h.la
  ln := h.ln
  lr := h.lr
  acc i hi := by obtain ⟨b, o, e, hc⟩ := h.acc i hi; exact ⟨b, o, e, by rw [hc, hA i hi]⟩
  row := h.row
  cel i c hi hc := by obtain ⟨b, o, e, hcc⟩ := h.cel i c hi hc; exact ⟨b, o, e, by rw [hcc, hX i c hi hc]⟩
def Kept (bw : Nat) (vts : Value) (w w' : World) : Prop := ∀ k, k < w.heap.size → k ≠ bw → vts.ownBlock ≠ some k → w'.heap[k]? = w.heap[k]?
theorem Kept.of_below {bw : Nat} {vts : Value} {w w' : World} (h : Below w.heap.size w w') : Kept bw vts w w' := fun k hk _ _ => h.block k hk
theorem Kept.from {bw : Nat} {vts : Value} {w w1 w' : World} (h : Below w.heap.size w w1) (h' : Kept bw vts w1 w') : Kept bw vts w w' := fun k hk h1 h2 => (h' k (by have := h.size; omega) h1 h2).trans (h.block k hk)
theorem eqNilIn {P : Program} {t e : TypeId} (d : Nat) (hu : P.underlying t = some (.slice e)) (w : World) : Sem.run P (Op.equalIn (d + 1) t (.slice none 0 0) (.slice none 0 0)) w = .ok true w := by
  simp only [Op.equalIn, Sem.run_bind, run_underlying hu, Result.andThen_ok]; rfl
theorem eqNil {P : Program} {t e : TypeId} (hu : P.underlying t = some (.slice e)) (w : World) : Sem.run P (binOp .eql t (.slice none 0 0) (.slice none 0 0)) w = .ok (.bool true) w := by
  have h := eqNilIn 9999 hu w
  show Sem.run P (do pure (Value.bool (← Op.equalIn (9999 + 1) t (Value.slice none 0 0) (Value.slice none 0 0)))) w = _
  rw [Sem.run_bind, h]; rfl
set_option maxRecDepth 20000 in
set_option maxHeartbeats 2000000 in
theorem table_err (bw : Nat) (er : Int) (w : World) (he : er ≠ 0) :
    Calls Tryz.prog 29 #[.pointer (some ⟨bw, 0, none⟩), .agg #[.slice none 0 0, .slice none 0 0], .int .i64 er, .agg #[.slice none 0 0, .slice none 0 0], .int .i64 er] w
      fun e w' => e = .returned (.bool true) ∧ Below w.heap.size w w' := by
  have B1 : Below w.heap.size w ((w.alloc (.cells #[.slice none 0 0, .slice none 0 0] 41)).alloc (.cells #[.slice none 0 0, .slice none 0 0] 41)) := ((Below.refl _ _).alloc (Nat.le_refl _) _).alloc (by simp) _
  have h1 : (er != er) = false := by simp
  have z1 := eqNil Tryz.underlying38 ((w.alloc (.cells #[.slice none 0 0, .slice none 0 0] 41)).alloc (.cells #[.slice none 0 0, .slice none 0 0] 41))
  have z2 := eqNil Tryz.underlying39 ((w.alloc (.cells #[.slice none 0 0, .slice none 0 0] 41)).alloc (.cells #[.slice none 0 0, .slice none 0 0] 41))
  have h2 : (er != 0) = true := by simp [he]
  go_enter Tryz.func29, Tryz.ntmps29
  go_wp2_with fail
  go_ret
  exact ⟨rfl, B1⟩
set_option maxRecDepth 20000 in
set_option maxHeartbeats 4000000 in
theorem table_ok (W0 : Fw) (wa w : World) (bw : Nat) (vts : Value) (hs : List Hd) (h : WdAt W0 wa bw vts hs) (hB : Below wa.heap.size wa w) (hn : hs.length ≤ 4398046511104)
    (V U : Lay) (R Q : Tab) (L : List Nat → Bool) (hR : IsLeast R L) (hQ : IsLeast Q L) (hT : TabAt w V R) (hFr : Fresh w V R.n) (hF : V.From wa.heap.size R.n) (hU : TabAt w U Q) (hR40 : R.n ≤ 40) :
    Calls Tryz.prog 29 #[.pointer (some ⟨bw, 0, none⟩), .agg #[.slice (some ⟨V.ba, V.oa, none⟩) R.n V.ca, .slice (some ⟨V.bn, V.on, none⟩) R.n V.cn], .int .i64 0, .agg #[.slice (some ⟨U.ba, U.oa, none⟩) Q.n U.ca, .slice (some ⟨U.bn, U.on, none⟩) Q.n U.cn], .int .i64 0] w
      (fun e w' => StepPost W0 bw hs.length e w' ∧ Kept bw vts wa w') := by
  have hS := least_unique hR hQ
  have hR1 := hR.num.pos
  rw [← hS.n]
  rw [show V.oa = 0 from hFr.oa, show V.on = 0 from hFr.on, show V.ca = R.n from hFr.ca, show V.cn = R.n from hFr.cn]
  obtain ⟨i0, hi0, hz0, hz01, hz02⟩ := info_parts Tryz.infoH
  obtain ⟨W, hW⟩ : ∃ W, W = (w.alloc (.cells #[.slice (some ⟨V.ba, 0, none⟩) R.n R.n, .slice (some ⟨V.bn, 0, none⟩) R.n R.n] 41)).alloc (.cells #[.slice (some ⟨U.ba, U.oa, none⟩) R.n U.ca, .slice (some ⟨U.bn, U.on, none⟩) R.n U.cn] 41) := ⟨_, rfl⟩
  have BW : Below w.heap.size w W := by rw [hW]; exact ((Below.refl _ _).alloc (Nat.le_refl _) _).alloc (by simp) _
  have hWs : w.heap.size + 1 < W.heap.size := by rw [hW]; simp
  have b0 : W.heap[w.heap.size]? = some (.cells #[.slice (some ⟨V.ba, 0, none⟩) R.n R.n, .slice (some ⟨V.bn, 0, none⟩) R.n R.n] 41 (0, 0)) := by rw [hW]; exact heap_at_old (heap_at_new (by simp))
  have b1 : W.heap[w.heap.size + 1]? = some (.cells #[.slice (some ⟨U.ba, U.oa, none⟩) R.n U.ca, .slice (some ⟨U.bn, U.on, none⟩) R.n U.cn] 41 (0, 0)) := by rw [hW]; exact heap_at_new (by simp)
  have hTL := tl_of_fresh hT hFr hR1 hR40
  have hTL1 := hTL.below BW
  have r1 := hTL1.raw
  have r2 := ((tab_raw hU (by rw [← hS.n]; exact hR40)).below BW).congr (A' := R.acc) (X' := fun i c => (R.nxt i c : Int)) (fun i hi => (hS.acc i (by rw [hS.n]; exact hi)).symm) (fun i c hi hc => by
    have := hS.nxt i c (by rw [hS.n]; exact hi) hc
    rw [this])
  rw [← hS.n] at r2
  have HC := lsame_ok _ _ _ _ _ _ _ _ _ _ _ _ _ _ _ R.acc (fun i c => (R.nxt i c : Int)) W r1 r2
  have hsz := hB.size
  have hab : Below wa.heap.size wa W := hB.trans (BW.mono (by omega))
  obtain ⟨x0, x1, _, _⟩ := cell_two b0
  obtain ⟨x2, x3, _, _⟩ := cell_two b1
  have HTL : Hid _ := hTL1
  have HFF : Hid _ := hF
  have HFI : Hid (∀ i j, i < j → j < R.n → V.rb i ≠ V.rb j) := hFr.inj
  try simp only [Lay.tl] at HC
  clear hTL hTL1 r1 r2 hS hR hQ hT hU hFr hF
  go_enter Tryz.func29, Tryz.ntmps29
  go_upto_region 1 with fail
  rw [← hW]
  clear hW
  go_wp2_with fail
  refine HC.mono ?_
  clear HC
  rintro e w1 ⟨rfl, hB1⟩
  have hs1 := hB1.size
  have c0 := (hB1.block _ (by omega)).trans b0
  obtain ⟨x0, x1, _, _⟩ := cell_two c0
  have HC := hold_ok (V.tl R.n) R.acc (fun i c => (R.nxt i c : Int)) wa.heap.size w1 (HTL.out.below hB1) HFF.out.a HFF.out.b (fun j hj _ => HFF.out.r j hj) (fun i j hij hj _ _ => HFI.out i j hij hj)
  simp only [Lay.tl] at HC
  have hab1 : Below wa.heap.size wa w1 := hab.trans (hB1.mono (by omega))
  clear x2 x3 b0 b1 c0 hB1
  go_wp2_with fail
  refine HC.mono ?_
  clear HC
  rintro e w2 ⟨hB2, dd, rfl, hD, _, _, _, hlo, _⟩
  have hs2 := hB2.size
  have hBa : Below wa.heap.size wa w2 := hab1.trans (hB2.mono (by omega))
  have h2 := h.below hBa
  obtain ⟨y0, y1, y2, y3⟩ := cell_three h2.blk
  have hbs := heap_lt h2.blk
  have hna := (h2.below ((Below.refl _ _).alloc (Nat.le_refl _) (.cells #[.pointer (some ⟨dd.bh, 0, none⟩)] 36))).own
  have HG : ∀ (g cap : Nat) (w3 : World), w3.ownsRow (bw + 1) 36 1 (.slice (some ⟨g, 0, none⟩) (hs.length + 1) cap) (hs.length + 1) (ptrs hs ++ [.pointer (some ⟨dd.bh, 0, none⟩)]) → (w2.alloc (.cells #[.pointer (some ⟨dd.bh, 0, none⟩)] 36)).grownBy w3 vts.ownBlock → (vts.ownBlock = some g ∨ g = (w2.alloc (.cells #[.pointer (some ⟨dd.bh, 0, none⟩)] 36)).heap.size) →
      w3.heap[bw]? = some (.cells #[vts, W0.vbs, W0.vtx] 31 (0, 0)) ∧ Hid (WdAt W0 (w3.setCell ⟨bw, 0, none⟩ (.slice (some ⟨g, 0, none⟩) (hs.length + 1) cap)) bw (.slice (some ⟨g, 0, none⟩) (hs.length + 1) cap) (hs ++ [dd])) ∧ Hid (Kept bw vts wa (w3.setCell ⟨bw, 0, none⟩ (.slice (some ⟨g, 0, none⟩) (hs.length + 1) cap))) := by
    intro g cap w3 ho hg hf
    obtain ⟨k1, k2⟩ := h.add hBa hD (by omega) ho hg hf
    refine ⟨k1, k2, fun k hk hb hv => ?_⟩
    have hk2 : k < w2.heap.size := by have := hBa.size; omega
    have e1 : (w3.setCell ⟨bw, 0, none⟩ (.slice (some ⟨g, 0, none⟩) (hs.length + 1) cap)).heap[k]? = w3.heap[k]? := by simp [World.setCell, Array.getElem?_modify, Ne.symm hb]
    rw [e1, hg.block k (by simp; omega) (fun e => hv e.symm), ← hBa.block k hk]
    exact ((Below.refl w2.heap.size w2).alloc (Nat.le_refl _) _).block k hk2
  clear hB2 x0 x1
  go_wp2_with (at_builtin; refine wpList_append_fresh _ rfl _ _ 27 rfl (bw + 1) 36 i0 (.pointer none) 1 8 Tryz.underlying27 hi0 hz0 hz01 hz02 rfl (by decide) _ hs.length _ rfl hna ⟨w2.heap.size, 0, none⟩ 1 1 [.pointer (some ⟨dd.bh, 0, none⟩)] rfl rfl (cell_one_new _ _ _) (by intro u hu; simp at hu; subst hu; rfl) (by decide) (by unfold maxLen; omega) (by omega) (by simp; omega) ?_; intro g cap w3 hown hgr hfr; obtain ⟨f0, F, FK⟩ := HG g cap w3 hown hgr hfr; obtain ⟨f1, f2, f3, f4⟩ := cell_three f0)
  go_ret
  exact ⟨⟨rfl, _, _, F.out, by simp⟩, FK.out⟩
end Go.Proofs.YtpngikmcjkjdaaaGreatDoor
namespace Go.Proofs.YtpngikmcjkjdaaaGreatDoor
open Go.RowKit
set_option linter.unusedVariables false
structure OpsAt (w : World) (ao : Option Addr) (len : Nat) (kd fa fb fc fd : Nat → Int) (st : Nat → ByteArray) (lo : Nat → Option Addr) (ll lc : Nat → Nat) (z : Nat → Nat → Int) : Prop where
  ln : len ≤ 4398046511104
  cel : ∀ i, i < len → ∃ b o, ao = some ⟨b, o, none⟩ ∧ w.cell? ⟨b, o + i * 7, none⟩ = some (.int .i64 (kd i)) ∧ w.cell? ⟨b, o + i * 7 + 1, none⟩ = some (.int .i64 (fa i)) ∧ w.cell? ⟨b, o + i * 7 + 2, none⟩ = some (.int .i64 (fb i)) ∧ w.cell? ⟨b, o + i * 7 + 3, none⟩ = some (.int .i64 (fc i)) ∧
    w.cell? ⟨b, o + i * 7 + 4, none⟩ = some (.int .i64 (fd i)) ∧ w.cell? ⟨b, o + i * 7 + 5, none⟩ = some (.string (st i)) ∧ w.cell? ⟨b, o + i * 7 + 6, none⟩ = some (.slice (lo i) (ll i) (lc i))
  ra : ∀ i, i < len → -9223372036854775808 ≤ fa i ∧ fa i ≤ 9223372036854775807
  rb : ∀ i, i < len → -9223372036854775808 ≤ fb i ∧ fb i ≤ 9223372036854775807
  rc : ∀ i, i < len → -9223372036854775808 ≤ fc i ∧ fc i ≤ 9223372036854775807
  str : ∀ i, i < len → (st i).size ≤ maxLen
  lst : ∀ i, i < len → LCode w (lo i) (ll i) (z i)
theorem OpsAt.below {w w' : World} {ao : Option Addr} {len : Nat} {kd fa fb fc fd : Nat → Int} {st : Nat → ByteArray} {lo : Nat → Option Addr} {ll lc : Nat → Nat} {z : Nat → Nat → Int} (h : OpsAt w ao len kd fa fb fc fd st lo ll lc z) (hb : Below w.heap.size w w') : OpsAt w' ao len kd fa fb fc fd st lo ll lc z :=
  ⟨h.ln, fun i hi => by
    obtain ⟨b, o, e, c0, c1, c2, c3, c4, c5, c6⟩ := h.cel i hi
    have hk := fun x => (bcell hb).1 b x (lt_of_cell c0)
    exact ⟨b, o, e, by rw [hk]; exact c0, by rw [hk]; exact c1, by rw [hk]; exact c2, by rw [hk]; exact c3, by rw [hk]; exact c4, by rw [hk]; exact c5, by rw [hk]; exact c6⟩, h.ra, h.rb, h.rc, h.str, fun i hi => (h.lst i hi).below hb⟩
def inB (k : Int) (ks : Nat → Int) : Nat → Bool
  | 0 => (k == 1) || (k == 2)
  | j + 1 => inB k ks j || (k == ks j)
theorem inB_iff (k : Int) (ks : Nat → Int) (n : Nat) : inB k ks n = true ↔ k = 1 ∨ k = 2 ∨ ∃ j, j < n ∧ k = ks j := by
  induction n with
  | zero => simp [inB]
  | succ n ih =>
    simp only [inB, Bool.or_eq_true, ih, beq_iff_eq]
    constructor
    · rintro ((h | h | ⟨j, hj, h⟩) | h)
      · exact .inl h
      · exact .inr (.inl h)
      · exact .inr (.inr ⟨j, by omega, h⟩)
      · exact .inr (.inr ⟨n, by omega, h⟩)
    · rintro (h | h | ⟨j, hj, h⟩)
      · exact .inl (.inl h)
      · exact .inl (.inr (.inl h))
      · by_cases e : j = n
        · subst e; exact .inr h
        · exact .inl (.inr (.inr ⟨j, by omega, h⟩))
set_option maxRecDepth 20000 in
set_option maxHeartbeats 4000000 in
theorem plays_ok (ao : Option Addr) (len cap : Nat) (kd fa fb fc fd : Nat → Int) (st : Nat → ByteArray) (lo : Nat → Option Addr) (ll lc : Nat → Nat) (z : Nat → Nat → Int) (w : World) (h : OpsAt w ao len kd fa fb fc fd st lo ll lc z)
    (bk nk ck : Nat) (ks : Nat → Int) (hk : ∀ j, j < nk → w.cell? ⟨bk, j, none⟩ = some (.int .i64 (ks j))) (hnk : nk ≤ 100)
    (HS : ∀ i, i < len → inB (kd i) ks nk = true → ∀ (w' : World) (vts : Value) (hs : List Hd), Below w.heap.size w w' → WdAt (.plain w) w' w.heap.size vts hs → hs.length ≤ i →
      Calls Tryz.prog 12 #[.pointer (some ⟨w.heap.size, 0, none⟩), .agg #[.int .i64 (kd i), .int .i64 (fa i), .int .i64 (fb i), .int .i64 (fc i), .int .i64 (fd i), .string (st i), .slice (lo i) (ll i) (lc i)]] w' (StepPost (.plain w) w.heap.size hs.length)) :
    Calls Tryz.prog 11 #[.slice ao len cap, .slice (some ⟨bk, 0, none⟩) nk ck] w fun e w' => e = .returned (.bool true) ∧ Below w.heap.size w w' := by
  have hln := h.ln
  have P0 : WdAt (.plain w) (w.alloc (.cells #[.slice none 0 0, .slice none 0 0, .slice none 0 0] 31)) w.heap.size (.slice none 0 0) [] :=
    ⟨(Below.refl _ _).alloc (Nat.le_refl _) _, heap_at_new rfl, World.ownsRow_nil _ _ _ _, fun d hd => by simp at hd, fun d hd => by simp at hd, List.Pairwise.nil, fun g e => by simp [Value.ownBlock] at e, fun k o e => by simp [Fw.plain] at e⟩
  go_enter Tryz.func11, Tryz.ntmps11
  go_wp2_with fail
  go_loopw [6, 7, 8, 9] (fun i' _ _ _ wr => ∃ (i : Nat) (vts : Value) (hs : List Hd), i ≤ len ∧ i' = .int .i64 i ∧ WdAt (.plain w) wr w.heap.size vts hs ∧ hs.length ≤ i) (fun i' _ _ _ _ => len - (intOf i').toNat)
  case atStart => exact ⟨0, _, [], by omega, rfl, P0, by simp⟩
  case round =>
    obtain ⟨i, vts, hs, hi, rfl, hP, hl⟩ := hrel
    clear P0
    by_cases hlt : i < len
    · obtain ⟨b, o, rfl, c0, c1, c2, c3, c4, c5, c6⟩ := (h.below hP.blw).cel i hlt
      have HK : Hid (∀ j, j < nk → wr.cell? ⟨bk, j, none⟩ = some (.int .i64 (ks j))) := fun j hj => by rw [(bcell hP.blw).1 _ _ (lt_of_cell (hk j hj))]; exact hk j hj
      have HP : Hid _ := hP
      have HSS : Hid _ := HS i hlt
      have H0 : Hid _ := h
      clear hP h HS hk
      obtain ⟨k, HKD⟩ : ∃ x, Hid (kd i = x) := ⟨_, rfl⟩
      rw [HKD.out] at c0
      rename World => wo
      go_upto_region 5 with fail
      go_cut [7] (fun v wc => v = .bool (inB k ks 0) ∧ wc = wo)
      case first =>
        by_cases k1 : k = 1
        · subst k1
          go_wp2_with fail
          go_meet
          exact ⟨rfl, rfl⟩
        · have hb1 : (k == 1) = false := by simp [k1]
          go_wp2_with fail
          go_meet
          exact ⟨by simp [inB, hb1], rfl⟩
      case rest =>
        obtain ⟨rfl, hwc⟩ := hcut
        obtain rfl : wo = wc := hwc.symm
        go_wp2_with fail
        go_loopw [7, 8] (fun v j' wr => ∃ j q : Nat, j ≤ nk ∧ v = .bool (inB k ks j) ∧ j' = .int .i64 j ∧ wr = wo.drewN q) (fun _ j' _ => nk - (intOf j').toNat)
        case atStart => exact ⟨0, 0, by omega, rfl, rfl, rfl⟩
        case round =>
          obtain ⟨j, q, hj, rfl, rfl, rfl⟩ := hrel
          by_cases hltj : j < nk
          · have d0 := HK.out j hltj
            obtain ⟨kj, HKJ⟩ : ∃ x, Hid (ks j = x) := ⟨_, rfl⟩
            rw [HKJ.out] at d0
            obtain ⟨bb, HBB⟩ : ∃ x, Hid (inB k ks j = x) := ⟨_, rfl⟩
            rw [HBB.out]
            have HN : Hid (inB k ks (j + 1) = (bb || (k == kj))) := by unfold Hid; simp only [inB]; rw [HBB.out, HKJ.out]
            cases bb
            · go_wp2_with fail
              go_quiet (fail)
              go_wp2_with fail
              go_roundw
              case rel => exact ⟨j + 1, _, by omega, by rw [HN.out]; simp, by go_num, rfl⟩
              case measure => simp [intOf]; omega
            · go_wp2_with fail
              go_quiet (fail)
              go_wp2_with fail
              go_roundw
              case rel => exact ⟨j + 1, _, by omega, by rw [HN.out]; simp, by go_num, rfl⟩
              case measure => simp [intOf]; omega
          · have he : j = nk := by omega
            subst he
            obtain ⟨bb, HBB⟩ : ∃ x, Hid (inB k ks j = x) := ⟨_, rfl⟩
            rw [HBB.out]
            have hPq := HP.out.below (below_drewN (Below.refl _ _) q)
            have hBq : Below w.heap.size w (wo.drewN q) := hPq.blw
            cases bb
            · have HPQ : Hid _ := hPq
              clear hPq hBq
              go_wp2_with fail
              go_roundw
              case rel => exact ⟨i + 1, vts, hs, by omega, by go_num, HPQ.out, by omega⟩
              case measure => simp [intOf]; omega
            · have HC := HSS.out (by rw [HKD.out]; exact HBB.out) (wo.drewN q) vts hs hBq hPq hl
              rw [HKD.out] at HC
              clear hPq hBq
              go_wp2_with fail
              refine Calls.mono HC ?_
              rintro e w1 ⟨rfl, vts', hs', hW1, hl1⟩
              have HC2 := looks_ok w w1 w.heap.size vts' hs' hW1 (by omega)
              have HW1 : Hid _ := hW1
              clear HC hW1
              go_wp2_with fail
              refine HC2.mono ?_
              rintro e w2 ⟨rfl, hB2⟩
              clear HC2
              go_wp2_with fail
              go_roundw
              case rel => exact ⟨i + 1, vts', hs', by omega, by go_num, HW1.out.below hB2, by omega⟩
              case measure => simp [intOf]; omega
    · have he : i = len := by omega
      subst he
      have HP : Hid _ := hP
      clear hP h HS hk
      go_wp2_with fail
      go_ret
      exact ⟨rfl, HP.out.blw⟩
end Go.Proofs.YtpngikmcjkjdaaaGreatDoor
namespace Go.Proofs.YtpngikmcjkjdaaaGreatDoor
open Go.RowKit Go.ChangeShapes Go.WideShapes Go.Deep
set_option linter.unusedVariables false
section
variable {H : Type} {enc : TypeId × Value → H} {P : Program} {w : World} {base : Nat} {spare : Nat → Bool} {held : Bool}
theorem trod_struct7 {t : TypeId} {f0 f1 f2 f3 f4 f5 f6 : Field} {fuel : Nat} {cs : List Value} {x : DataW H × List MemPlace} (ht : P.underlying t = some (.struct #[f0, f1, f2, f3, f4, f5, f6])) (h : DataW.trod enc P w base spare held fuel t cs = some x) :
    ∃ y0 y1 y2 y3 y4 y5 y6 n, x.1 = .agg [y0.1, y1.1, y2.1, y3.1, y4.1, y5.1, y6.1] ∧ cs.length = P.cellsOf t ∧ DataW.trod enc P w base spare held n f0.type ((cs.drop f0.offset).take (P.cellsOf f0.type)) = some y0 ∧
      DataW.trod enc P w base spare held n f1.type ((cs.drop f1.offset).take (P.cellsOf f1.type)) = some y1 ∧ DataW.trod enc P w base spare held n f2.type ((cs.drop f2.offset).take (P.cellsOf f2.type)) = some y2 ∧
      DataW.trod enc P w base spare held n f3.type ((cs.drop f3.offset).take (P.cellsOf f3.type)) = some y3 ∧ DataW.trod enc P w base spare held n f4.type ((cs.drop f4.offset).take (P.cellsOf f4.type)) = some y4 ∧
      DataW.trod enc P w base spare held n f5.type ((cs.drop f5.offset).take (P.cellsOf f5.type)) = some y5 ∧ DataW.trod enc P w base spare held n f6.type ((cs.drop f6.offset).take (P.cellsOf f6.type)) = some y6 := by
  obtain ⟨xs, n, _, rfl, hl, hlen, hf⟩ := DataW.trod_struct ht h
  match xs, hlen with
  | [y0, y1, y2, y3, y4, y5, y6], _ => exact ⟨y0, y1, y2, y3, y4, y5, y6, n, by simp, hl, by simpa using hf 0 f0 rfl, by simpa using hf 1 f1 rfl, by simpa using hf 2 f2 rfl, by simpa using hf 3 f3 rfl, by simpa using hf 4 f4 rfl, by simpa using hf 5 f5 rfl, by simpa using hf 6 f6 rfl⟩
theorem weights_all {P : Program} {e : TypeId} : ∀ (l : List (DataW H)) (d : DataW H), d ∈ l → ∀ n ∈ d.weights P e, n ∈ DataW.weightsAll P e l := by
  intro l
  induction l with
  | nil => intro d hd; simp at hd
  | cons x l ih =>
    intro d hd n hn
    simp only [DataW.weightsAll, List.mem_append]
    simp only [List.mem_cons] at hd
    rcases hd with rfl | hd
    · exact .inl hn
    · exact .inr (ih d hd n hn)
end
theorem addr_add (b o n : Nat) : (⟨b, o, none⟩ : Addr).add n = ⟨b, o + n, none⟩ := by unfold Addr.add; split <;> simp_all
theorem addr_spot {W : World} {a : Addr} {v : Value} (h : W.cell? a = some v) : a.spot = none := World.cell?_spot h
theorem Tryz.cellsOp : Tryz.prog.cellsOf 33 = 7 := by kernel_rfl
theorem Tryz.cellsInt : Tryz.prog.cellsOf 3 = 1 := by kernel_rfl
theorem Tryz.cellsStr : Tryz.prog.cellsOf 9 = 1 := by kernel_rfl
theorem Tryz.cellsInts : Tryz.prog.cellsOf 24 = 1 := by kernel_rfl
theorem Tryz.bytesOp : Tryz.prog.bytesOf 33 = 80 := by kernel_rfl
theorem Tryz.bytesInt : Tryz.prog.bytesOf 3 = 8 := by kernel_rfl
structure OpRec where
  (kd fa fb fc fd : Int)
  (st : ByteArray)
  (lo : Option Addr)
  (ll lc : Nat)
  (z : Nat → Int)
structure OpRec.At (w : World) (b o : Nat) (r : OpRec) : Prop where
  c0 : w.cell? ⟨b, o, none⟩ = some (.int .i64 r.kd)
  c1 : w.cell? ⟨b, o + 1, none⟩ = some (.int .i64 r.fa)
  c2 : w.cell? ⟨b, o + 2, none⟩ = some (.int .i64 r.fb)
  c3 : w.cell? ⟨b, o + 3, none⟩ = some (.int .i64 r.fc)
  c4 : w.cell? ⟨b, o + 4, none⟩ = some (.int .i64 r.fd)
  c5 : w.cell? ⟨b, o + 5, none⟩ = some (.string r.st)
  c6 : w.cell? ⟨b, o + 6, none⟩ = some (.slice r.lo r.ll r.lc)
  ra : -9223372036854775808 ≤ r.fa ∧ r.fa ≤ 9223372036854775807
  rb : -9223372036854775808 ≤ r.fb ∧ r.fb ≤ 9223372036854775807
  rc : -9223372036854775808 ≤ r.fc ∧ r.fc ≤ 9223372036854775807
  str : r.st.size ≤ maxLen
  lst : LCode w r.lo r.ll r.z
set_option maxRecDepth 20000 in
theorem open_ops {H : Type} {enc : TypeId × Value → H} {W : World} {ao : Option Addr} {len cap : Nat} {d : DataW H} {p : List MemPlace} {ts : List TypeId} {ds : List (DataW H)}
    (h : DataW.Trod enc Tryz.prog W 0 (fun _ => true) true 22 (.slice ao len cap) d p) (hr : (DataW.weightsEach Tryz.prog ts ds).all (· ≤ reachBytes) = true) (ht : ts[0]? = some 22) (hd : ds[0]? = some d) :
    ∃ r : Nat → OpRec, len ≤ 4398046511104 ∧ ∀ i, i < len → ∃ b o, ao = some ⟨b, o, none⟩ ∧ (r i).At W b (o + i * 7) := by
  obtain ⟨fuel, hf⟩ := h
  rcases open_slice Tryz.underlying22 hf with ⟨hcs, _⟩ | ⟨a, l, c, m, n, D, Pl, hcs, _, hl, hm, hmm, hx, hall⟩
  · simp [Value.cells] at hcs
    obtain ⟨rfl, rfl, rfl⟩ := hcs
    exact ⟨fun _ => ⟨0, 0, 0, 0, 0, ⟨#[]⟩, none, 0, 0, fun _ => 0⟩, by omega, fun i hi => absurd hi (by omega)⟩
  · simp [Value.cells] at hcs
    obtain ⟨rfl, rfl, rfl⟩ := hcs
    simp only [Prod.mk.injEq] at hx
    obtain ⟨rfl, rfl⟩ := hx
    have hb := sized_slice hr ht hd Tryz.underlying22
    rw [Tryz.bytesOp] at hb
    simp only [List.length_map, List.length_range] at hb
    have hrb := reachBytes_lt
    simp only [if_true] at hmm
    subst hmm
    have hone : ∀ i, ∃ r : OpRec, i < len → ∃ b o, a = ⟨b, o, none⟩ ∧ r.At W b (o + i * 7) := by
      intro i
      by_cases hi : i < len
      · obtain ⟨cs, hcs, ht2⟩ := hall i (by omega)
        obtain ⟨_, hcl, hcell⟩ := World.cells?_some hcs
        rw [Tryz.cellsOp] at hcell hcl
        obtain ⟨y0, y1, y2, y3, y4, y5, y6, n2, hD, _, t0, t1, t2, t3, t4, t5, t6⟩ := trod_struct7 Tryz.underlying33 ht2
        simp only [Tryz.cellsInt, Tryz.cellsStr, Tryz.cellsInts] at t0 t1 t2 t3 t4 t5 t6
        match cs, hcl with
        | [v0, v1, v2, v3, v4, v5, v6], _ =>
          simp only [List.drop, List.take] at t0 t1 t2 t3 t4 t5 t6
          obtain ⟨k0, e0, _, _⟩ := DataW.trod_int Tryz.underlying3 t0
          obtain ⟨k1, e1, _, w1⟩ := DataW.trod_int Tryz.underlying3 t1
          obtain ⟨k2, e2, _, w2⟩ := DataW.trod_int Tryz.underlying3 t2
          obtain ⟨k3, e3, _, w3⟩ := DataW.trod_int Tryz.underlying3 t3
          obtain ⟨k4, e4, _, w4⟩ := DataW.trod_int Tryz.underlying3 t4
          obtain ⟨s5, e5, _, w5⟩ := DataW.trod_string Tryz.underlying9 t5
          simp only [List.cons.injEq, and_true] at e0 e1 e2 e3 e4 e5
          subst e0; subst e1; subst e2; subst e3; subst e4; subst e5
          obtain ⟨ab, ao, spot⟩ := a
          have hspot : spot = none := by
            obtain ⟨cs0, hcs0, _⟩ := hall 0 (by omega)
            obtain ⟨_, hl0, hc0⟩ := World.cells?_some hcs0
            rw [Tryz.cellsOp] at hl0 hc0
            have h00 := hc0 0 (by omega)
            rw [List.getElem?_eq_getElem (show 0 < cs0.length by omega), Nat.zero_mul] at h00
            exact addr_spot (a := ⟨ab, ao, spot⟩) (by simpa [Addr.add] using h00)
          subst hspot
          have hadd : ∀ j, ((⟨ab, ao, none⟩ : Addr).add (i * Tryz.prog.cellsOf 33)).add j = ⟨ab, ao + i * 7 + j, none⟩ := fun j => by rw [Tryz.cellsOp, addr_add, addr_add]
          have hc : ∀ j, j < 7 → W.cell? ⟨ab, ao + i * 7 + j, none⟩ = [Value.int .i64 k0, .int .i64 k1, .int .i64 k2, .int .i64 k3, .int .i64 k4, .string s5, v6][j]? := fun j hj => by rw [← hadd j, Tryz.cellsOp]; exact hcell j hj
          obtain ⟨lo, ll, lc, z, rfl, hL⟩ : ∃ lo ll lc z, v6 = .slice lo ll lc ∧ LCode W lo ll z := by
            rcases open_slice Tryz.underlying24 t6 with ⟨h6, _⟩ | ⟨a6, l6, c6, m6, n6, D6, P6, h6, _, hl6, hm6, hmm6, hx6, hall6⟩
            · simp only [List.cons.injEq, and_true] at h6
              exact ⟨none, 0, 0, fun _ => 0, h6, by omega, fun t ht => absurd ht (by omega)⟩
            · simp only [List.cons.injEq, and_true] at h6
              simp only [if_true] at hmm6
              subst hmm6
              have hy6 : y6.1 = .slice ((List.range l6).map D6) ((List.range (m6 - l6)).map fun j => D6 (l6 + j)) := by rw [hx6]
              have hwt : (l6 + (m6 - l6)) * Tryz.prog.bytesOf 3 ∈ DataW.weightsEach Tryz.prog ts ds := by
                refine DataW.weights_mem_each ht hd _ ?_
                simp only [DataW.weights, Tryz.underlying22, List.mem_cons, List.mem_append]
                right; left
                refine weights_all _ (D i) (List.mem_map.2 ⟨i, by simpa using hi, rfl⟩) _ ?_
                have hD' : D i = .agg [y0.1, y1.1, y2.1, y3.1, y4.1, y5.1, y6.1] := hD
                rw [hD', hy6]
                simp [DataW.weights, DataW.weightsEach, Tryz.underlying33, Tryz.underlying24]
              have hle := of_decide_eq_true (List.all_eq_true.1 hr _ hwt)
              rw [Tryz.bytesInt] at hle
              refine ⟨some a6, l6, m6, fun t => match W.cell? (a6.add t) with | some (.int .i64 x) => x | _ => 0, h6, by omega, fun t ht => ?_⟩
              obtain ⟨cs6, hcs6, ht6⟩ := hall6 t (by omega)
              rw [Tryz.cellsInt, Nat.mul_one] at hcs6
              obtain ⟨_, hl7, hcell6⟩ := World.cells?_some hcs6
              obtain ⟨x, hx, _, _⟩ := DataW.trod_int Tryz.underlying3 ht6
              subst hx
              have h7 := hcell6 0 (by omega)
              obtain ⟨b6, o6, spot6⟩ := a6
              have hsp6 : spot6 = none := by
                obtain ⟨cs0, hcs0, _⟩ := hall6 0 (by omega)
                obtain ⟨_, hl0, hc0⟩ := World.cells?_some hcs0
                rw [Tryz.cellsInt] at hl0 hc0
                have h00 := hc0 0 (by omega)
                rw [List.getElem?_eq_getElem (show 0 < cs0.length by omega), Nat.zero_mul] at h00
                exact addr_spot (a := ⟨b6, o6, spot6⟩) (by simpa [Addr.add] using h00)
              subst hsp6
              refine ⟨b6, o6, rfl, ?_⟩
              have ea : ((⟨b6, o6, none⟩ : Addr).add t) = ⟨b6, o6 + t, none⟩ := addr_add _ _ _
              have eb : ((⟨b6, o6, none⟩ : Addr).add t).add 0 = ⟨b6, o6 + t, none⟩ := by rw [addr_add, addr_add, Nat.add_zero]
              rw [eb] at h7
              rw [ea, h7]
              rfl
          refine ⟨⟨k0, k1, k2, k3, k4, s5, lo, ll, lc, z⟩, fun _ => ⟨ab, ao, rfl, by simpa using hc 0 (by omega), by simpa using hc 1 (by omega), by simpa using hc 2 (by omega), by simpa using hc 3 (by omega), by simpa using hc 4 (by omega), by simpa using hc 5 (by omega), by simpa using hc 6 (by omega), bounds_i64 w1, bounds_i64 w2, bounds_i64 w3, w5, hL⟩⟩
      · exact ⟨⟨0, 0, 0, 0, 0, ⟨#[]⟩, none, 0, 0, fun _ => 0⟩, fun h => absurd h hi⟩
    obtain ⟨f, hfun⟩ := Classical.skolem.1 hone
    refine ⟨f, by omega, fun i hi => ?_⟩
    obtain ⟨b, o, rfl, h⟩ := hfun i hi
    exact ⟨b, o, rfl, h⟩
theorem ops_of {w : World} {ao : Option Addr} {len : Nat} {r : Nat → OpRec} (hlen : len ≤ 4398046511104) (h : ∀ i, i < len → ∃ b o, ao = some ⟨b, o, none⟩ ∧ (r i).At w b (o + i * 7)) :
    OpsAt w ao len (fun i => (r i).kd) (fun i => (r i).fa) (fun i => (r i).fb) (fun i => (r i).fc) (fun i => (r i).fd) (fun i => (r i).st) (fun i => (r i).lo) (fun i => (r i).ll) (fun i => (r i).lc) (fun i => (r i).z) where
  ln := hlen
  cel i hi := by
    obtain ⟨b, o, e, a⟩ := h i hi
    exact ⟨b, o, e, a.c0, a.c1, a.c2, a.c3, a.c4, a.c5, a.c6⟩
  ra i hi := by obtain ⟨b, o, e, a⟩ := h i hi; exact a.ra
  rb i hi := by obtain ⟨b, o, e, a⟩ := h i hi; exact a.rb
  rc i hi := by obtain ⟨b, o, e, a⟩ := h i hi; exact a.rc
  str i hi := by obtain ⟨b, o, e, a⟩ := h i hi; exact a.str
  lst i hi := by obtain ⟨b, o, e, a⟩ := h i hi; exact a.lst
end Go.Proofs.YtpngikmcjkjdaaaGreatDoor
namespace Go.Proofs.YtpngikmcjkjdaaaGreatDoor
open Go.RowKit
set_option linter.unusedVariables false
set_option linter.unusedSimpArgs false
set_option maxRecDepth 20000 in
set_option maxHeartbeats 8000000 in
theorem made_compile (W0 : Fw) (w : World) (bw : Nat) (vts : Value) (hs : List Hd) (hw : WdAt W0 w bw vts hs) (hn : hs.length ≤ 4398046511104) (a b c d : Int) (s : ByteArray) (lo : Option Addr) (ll lc : Nat) (hss : s.size ≤ maxLen) :
    Calls Tryz.prog 18 #[.pointer (some ⟨bw, 0, none⟩), .agg #[.int .i64 8, .int .i64 a, .int .i64 b, .int .i64 c, .int .i64 d, .string s, .slice lo ll lc]] w
      (fun e w' => StepPost W0 bw hs.length e w' ∧ Kept bw vts w w') := by
  obtain ⟨W2, hW2⟩ : ∃ W, W = w.alloc (.cells #[.int .i64 8, .int .i64 a, .int .i64 b, .int .i64 c, .int .i64 d, .string s, .slice lo ll lc] 33) := ⟨_, rfl⟩
  have BW2 : Below w.heap.size w W2 := by rw [hW2]; exact (Below.refl _ _).alloc (Nat.le_refl _) _
  have hWs : W2.heap.size = w.heap.size + 1 := by rw [hW2]; simp
  have b0 : W2.heap[w.heap.size]? = some (.cells #[.int .i64 8, .int .i64 a, .int .i64 b, .int .i64 c, .int .i64 d, .string s, .slice lo ll lc] 33 (0, 0)) := by rw [hW2]; exact heap_at_new rfl
  obtain ⟨x0, x1, x2, _, _, x5, _⟩ := cell_seven b0
  have hw2 := hw.below BW2
  go_enter Tryz.func18, Tryz.ntmps18
  go_upto_region 1 with fail
  rw [← hW2]
  clear hW2
  cases hje : compErr s a with
  | none =>
    obtain ⟨p, t, hp, hta, hbk, hpz, hs40, ha1, ha2⟩ := compErr_none hje
    obtain ⟨bu, rfl⟩ : ∃ n : Nat, a = (n : Int) := ⟨a.toNat, by omega⟩
    clear hje
    have HCO : Hid (∀ w1, Calls Tryz.prog 30 #[.string s, .int .i64 (bu : Int)] w1 fun e w' => ∃ n, CompPost (patL p) bu n w1 e w') := fun w1 => compile_ok s bu w1 hp hta hbk hpz hs40 (by omega) (by omega)
    have HCR : Hid (∀ w1, Calls Tryz.prog 31 #[.string s, .int .i64 (bu : Int)] w1 (RCompPost (patL p) bu w1)) := fun w1 => rcompile_ok s bu w1 hp hta hbk hpz hs40 (by omega) (by omega)
    obtain ⟨L, HL⟩ : ∃ x, Hid (patL p = x) := ⟨_, rfl⟩
    rw [HL.out] at HCO HCR
    clear hp hta hbk hpz hs40 HL
    have HC := HCO.out W2
    go_wp2_with fail
    refine HC.mono ?_
    clear HC x0 x1 x2 x5
    rintro e w6 ⟨n, v, er, rfl, hB6, ⟨R, Vr, hR, hRd, hev, hTr, hFr, hFs⟩ | ⟨hev, hbud, hRn⟩⟩
    · obtain ⟨rfl, rfl⟩ : v = _ ∧ er = _ := by simpa using hev
      clear hev
      have hs6 := hB6.size
      go_upto_region 6 with fail
      obtain ⟨W6, hW6⟩ : ∃ W6, W6 = w6.alloc (.cells #[.slice (some ⟨Vr.ba, Vr.oa, none⟩) R.n Vr.ca, .slice (some ⟨Vr.bn, Vr.on, none⟩) R.n Vr.cn] 41) := ⟨_, rfl⟩
      have bW6 : Below w6.heap.size w6 W6 := by rw [hW6]; exact (Below.refl _ _).alloc (Nat.le_refl _) _
      have sW6 : w6.heap.size < W6.heap.size := by rw [hW6]; simp
      have qW6 : W6.heap[w6.heap.size]? = some (.cells #[.slice (some ⟨Vr.ba, Vr.oa, none⟩) R.n Vr.ca, .slice (some ⟨Vr.bn, Vr.on, none⟩) R.n Vr.cn] 41 (0, 0)) := by rw [hW6]; exact heap_at_new rfl
      rw [← hW6]
      clear hW6
      have B6 : Below W2.heap.size W2 W6 := hB6.trans (bW6.mono (by omega))
      obtain ⟨z0, z1, z2, _, _, z5, _⟩ := cell_seven ((B6.block _ (by omega)).trans b0)
      have HC2 := HCR.out W6
      have HR : Hid _ := hR
      have HTr : Hid _ := hTr
      have HFr : Hid (Vr.From W2.heap.size R.n) := hFr
      have HFs : Hid _ := hFs
      clear hR hTr hFr hFs
      go_wp2_with fail
      refine HC2.mono ?_
      clear HC2
      rintro e w7 ⟨hB7, ⟨U, Q, hQ, hQd, rfl, hU⟩ | ⟨rfl, Q, hQ, hQd⟩⟩
      · have hs7 := hB7.size
        go_upto_region 7 with fail
        obtain ⟨W7, hW7⟩ : ∃ W7, W7 = w7.alloc (.cells #[.slice (some ⟨U.ba, U.oa, none⟩) Q.n U.ca, .slice (some ⟨U.bn, U.on, none⟩) Q.n U.cn] 41) := ⟨_, rfl⟩
        have bW7 : Below w7.heap.size w7 W7 := by rw [hW7]; exact (Below.refl _ _).alloc (Nat.le_refl _) _
        have sW7 : w7.heap.size < W7.heap.size := by rw [hW7]; simp
        have qW7 : W7.heap[w7.heap.size]? = some (.cells #[.slice (some ⟨U.ba, U.oa, none⟩) Q.n U.ca, .slice (some ⟨U.bn, U.on, none⟩) Q.n U.cn] 41 (0, 0)) := by rw [hW7]; exact heap_at_new rfl
        rw [← hW7]
        clear hW7
        have BC : Below W6.heap.size W6 W7 := hB7.trans (bW7.mono (by omega))
        have BB : Below W2.heap.size W2 W7 := B6.trans (BC.mono (by omega))
        obtain ⟨f0, f1, _, _⟩ := cell_two ((BC.block _ (by omega)).trans qW6)
        obtain ⟨g0, g1, _, _⟩ := cell_two qW7
        have BD : Below w6.heap.size w6 W7 := bW6.trans (BC.mono (by omega))
        have HC3 := table_ok W0 W2 W7 bw vts hs hw2 BB hn Vr U R Q L HR.out hQ (HTr.out.below BD) (HFs.out.below BD) HFr.out (hU.below bW7) (by omega)
        clear z0 z1 z2 z5 BC BD hB7 bW7 bW6 qW6 qW7 hQ HR HTr HFr HFs hU
        go_wp2_with fail
        refine HC3.mono ?_
        clear HC3
        rintro e w8 ⟨⟨rfl, vts', hs', hW', hl'⟩, hK⟩
        have HF : Hid _ := hW'
        have HK : Hid (Kept bw vts w w8) := Kept.from BW2 hK
        clear hK
        clear hW' f0 f1 g0 g1
        go_wp2_with fail
        go_ret
        exact ⟨⟨rfl, vts', hs', HF.out, hl'⟩, HK.out⟩
      · exfalso
        have := (least_unique HR.out hQ).n
        omega
    · obtain ⟨rfl, rfl⟩ : v = _ ∧ er = _ := by simpa using hev
      clear hev
      have hs6 := hB6.size
      go_upto_region 6 with fail
      obtain ⟨W6, hW6⟩ : ∃ W6, W6 = w6.alloc (.cells #[.slice none 0 0, .slice none 0 0] 41) := ⟨_, rfl⟩
      have bW6 : Below w6.heap.size w6 W6 := by rw [hW6]; exact (Below.refl _ _).alloc (Nat.le_refl _) _
      have sW6 : w6.heap.size < W6.heap.size := by rw [hW6]; simp
      have qW6 : W6.heap[w6.heap.size]? = some (.cells #[.slice none 0 0, .slice none 0 0] 41 (0, 0)) := by rw [hW6]; exact heap_at_new rfl
      rw [← hW6]
      clear hW6
      have B6 : Below W2.heap.size W2 W6 := hB6.trans (bW6.mono (by omega))
      obtain ⟨z0, z1, z2, _, _, z5, _⟩ := cell_seven ((B6.block _ (by omega)).trans b0)
      have HC2 := HCR.out W6
      have HRN : Hid _ := hRn
      clear hRn
      go_wp2_with fail
      refine HC2.mono ?_
      clear HC2
      rintro e w7 ⟨hB7, ⟨U, Q, hQ, hQd, rfl, hU⟩ | ⟨rfl, Q, hQ, hQd⟩⟩
      · exfalso
        have := HRN.out Q hQ
        omega
      · have hs7 := hB7.size
        go_upto_region 7 with fail
        obtain ⟨W7, hW7⟩ : ∃ W7, W7 = w7.alloc (.cells #[.slice none 0 0, .slice none 0 0] 41) := ⟨_, rfl⟩
        have bW7 : Below w7.heap.size w7 W7 := by rw [hW7]; exact (Below.refl _ _).alloc (Nat.le_refl _) _
        have sW7 : w7.heap.size < W7.heap.size := by rw [hW7]; simp
        have qW7 : W7.heap[w7.heap.size]? = some (.cells #[.slice none 0 0, .slice none 0 0] 41 (0, 0)) := by rw [hW7]; exact heap_at_new rfl
        rw [← hW7]
        clear hW7
        have BC : Below W6.heap.size W6 W7 := hB7.trans (bW7.mono (by omega))
        have BB : Below W2.heap.size W2 W7 := B6.trans (BC.mono (by omega))
        obtain ⟨f0, f1, _, _⟩ := cell_two ((BC.block _ (by omega)).trans qW6)
        obtain ⟨g0, g1, _, _⟩ := cell_two qW7
        have HC3 := table_err bw 5 W7 (by decide)
        clear z0 z1 z2 z5 BC hB7 bW7 qW6 qW7
        go_wp2_with fail
        refine HC3.mono ?_
        clear HC3
        rintro e w8 ⟨rfl, hB8⟩
        have HF : Hid (WdAt W0 w8 bw vts hs) := hw2.below (BB.trans (hB8.mono (by omega)))
        have HK : Hid (Kept bw vts w w8) := Kept.from BW2 (Kept.of_below (BB.trans (hB8.mono (by omega))))
        clear hB8 BB f0 f1 g0 g1
        go_wp2_with fail
        go_ret
        exact ⟨⟨rfl, _, _, HF.out, by omega⟩, HK.out⟩
  | some v =>
    obtain ⟨er, pl⟩ := v
    have HC := compile_no s a W2 hss hje
    have HCR : Hid (∀ w1, Calls Tryz.prog 31 #[.string s, .int .i64 a] w1 (CompNo er pl w1)) := fun w1 => rcompile_no s a w1 hss hje
    have her : er ≠ 0 := by
      rcases compErr_cases hje with ⟨_, rfl, _⟩ | ⟨_, _, rfl⟩ | ⟨_, _, _, _, _, ⟨_, rfl, _⟩ | ⟨_, _, rfl, _⟩ | ⟨_, _, _, rfl, _⟩⟩ <;> decide
    clear hje
    go_wp2_with fail
    refine HC.mono ?_
    clear HC x0 x1 x2 x5
    rintro e w6 ⟨rfl, hB6⟩
    have hs6 := hB6.size
    go_upto_region 6 with fail
    obtain ⟨W6, hW6⟩ : ∃ W6, W6 = w6.alloc (.cells #[.slice none 0 0, .slice none 0 0] 41) := ⟨_, rfl⟩
    have bW6 : Below w6.heap.size w6 W6 := by rw [hW6]; exact (Below.refl _ _).alloc (Nat.le_refl _) _
    have sW6 : w6.heap.size < W6.heap.size := by rw [hW6]; simp
    have qW6 : W6.heap[w6.heap.size]? = some (.cells #[.slice none 0 0, .slice none 0 0] 41 (0, 0)) := by rw [hW6]; exact heap_at_new rfl
    rw [← hW6]
    clear hW6
    have B6 : Below W2.heap.size W2 W6 := hB6.trans (bW6.mono (by omega))
    obtain ⟨z0, z1, z2, _, _, z5, _⟩ := cell_seven ((B6.block _ (by omega)).trans b0)
    have HC2 := HCR.out W6
    go_wp2_with fail
    refine HC2.mono ?_
    clear HC2
    rintro e w7 ⟨rfl, hB7⟩
    have hs7 := hB7.size
    go_upto_region 7 with fail
    obtain ⟨W7, hW7⟩ : ∃ W7, W7 = w7.alloc (.cells #[.slice none 0 0, .slice none 0 0] 41) := ⟨_, rfl⟩
    have bW7 : Below w7.heap.size w7 W7 := by rw [hW7]; exact (Below.refl _ _).alloc (Nat.le_refl _) _
    have sW7 : w7.heap.size < W7.heap.size := by rw [hW7]; simp
    have qW7 : W7.heap[w7.heap.size]? = some (.cells #[.slice none 0 0, .slice none 0 0] 41 (0, 0)) := by rw [hW7]; exact heap_at_new rfl
    rw [← hW7]
    clear hW7
    have BC : Below W6.heap.size W6 W7 := hB7.trans (bW7.mono (by omega))
    have BB : Below W2.heap.size W2 W7 := B6.trans (BC.mono (by omega))
    obtain ⟨f0, f1, _, _⟩ := cell_two ((BC.block _ (by omega)).trans qW6)
    obtain ⟨g0, g1, _, _⟩ := cell_two qW7
    have HC3 := table_err bw er W7 her
    clear z0 z1 z2 z5 BC hB7 bW7 qW6 qW7
    go_wp2_with fail
    refine HC3.mono ?_
    clear HC3
    rintro e w8 ⟨rfl, hB8⟩
    have HF : Hid (WdAt W0 w8 bw vts hs) := hw2.below (BB.trans (hB8.mono (by omega)))
    have HK : Hid (Kept bw vts w w8) := Kept.from BW2 (Kept.of_below (BB.trans (hB8.mono (by omega))))
    clear hB8 BB f0 f1 g0 g1
    go_wp2_with fail
    go_ret
    exact ⟨⟨rfl, _, _, HF.out, by omega⟩, HK.out⟩
end Go.Proofs.YtpngikmcjkjdaaaGreatDoor
namespace Go.Proofs.YtpngikmcjkjdaaaGreatDoor
open Go.RowKit
set_option linter.unusedVariables false
set_option linter.unusedSimpArgs false
set_option maxRecDepth 20000 in
set_option maxHeartbeats 4000000 in
theorem step_compile (W0 : Fw) (w : World) (bw : Nat) (vts : Value) (hs : List Hd) (h : WdAt W0 w bw vts hs) (a b c d : Int) (s : ByteArray) (lo : Option Addr) (ll lc : Nat) (hn : hs.length ≤ 4398046511104) (hss : s.size ≤ maxLen) :
    Calls Tryz.prog 12 #[.pointer (some ⟨bw, 0, none⟩), .agg #[.int .i64 8, .int .i64 a, .int .i64 b, .int .i64 c, .int .i64 d, .string s, .slice lo ll lc]] w (StepPost W0 bw hs.length) := by
  obtain ⟨W, hW⟩ : ∃ W, W = w.alloc (.cells #[.int .i64 8, .int .i64 a, .int .i64 b, .int .i64 c, .int .i64 d, .string s, .slice lo ll lc] 33) := ⟨_, rfl⟩
  have BW : Below w.heap.size w W := by rw [hW]; exact (Below.refl _ _).alloc (Nat.le_refl _) _
  have b0 : W.heap[w.heap.size]? = some (.cells #[.int .i64 8, .int .i64 a, .int .i64 b, .int .i64 c, .int .i64 d, .string s, .slice lo ll lc] 33 (0, 0)) := by rw [hW]; exact heap_at_new rfl
  have h1 := h.below BW
  obtain ⟨x0, x1, x2, x3, x4, x5, x6⟩ := cell_seven b0
  have HQ := made_compile W0 W bw vts hs h1 hn a b c d s lo ll lc hss
  clear h h1
  go_enter Tryz.func12, Tryz.ntmps12
  go_upto_region 1 with fail
  rw [← hW]
  clear hW
  go_wp2_with fail
  refine HQ.mono ?_
  clear HQ
  rintro e w1 ⟨⟨rfl, hT⟩, _⟩
  have HT : Hid _ := hT
  clear hT
  go_wp2_with fail
  go_ret
  exact ⟨rfl, HT.out⟩
set_option maxRecDepth 20000 in
set_option maxHeartbeats 2000000 in
theorem compiles_walk (ao : Option Addr) (len cap : Nat) (r : Nat → OpRec) (w : World) (hlen : len ≤ 4398046511104) (h : ∀ i, i < len → ∃ b o, ao = some ⟨b, o, none⟩ ∧ (r i).At w b (o + i * 7)) :
    Calls Tryz.prog 6 #[.slice ao len cap] w fun e w' => e = .returned (.bool true) ∧ Below w.heap.size w w' := by
  have hO := ops_of hlen h
  obtain ⟨W, hW⟩ : ∃ W, W = w.alloc (.cells #[.int .i64 8] 3) := ⟨_, rfl⟩
  have BW : Below w.heap.size w W := by rw [hW]; exact (Below.refl _ _).alloc (Nat.le_refl _) _
  have hWs : w.heap.size < W.heap.size := by rw [hW]; simp
  have b0 : W.heap[w.heap.size]? = some (.cells #[.int .i64 8] 3 (0, 0)) := by rw [hW]; exact heap_at_new rfl
  have k0 : W.cell? ⟨w.heap.size, 0, none⟩ = some (.int .i64 8) := by simp [World.cell?, b0]
  have hO1 := hO.below BW
  have HC := plays_ok ao len cap _ _ _ _ _ _ _ _ _ _ W hO1 w.heap.size 1 1 (fun _ => 8) (fun j hj => by
      obtain rfl : j = 0 := by omega
      exact k0) (by omega) (fun i hi hin w' vts hs hB hP hl => by
      have hR := hO1.below hB
      rw [inB_iff] at hin
      have hk : (r i).kd = 1 ∨ (r i).kd = 2 ∨ (r i).kd = 8 := by
        rcases hin with h | h | ⟨j, hj, h⟩
        · exact .inl h
        · exact .inr (.inl h)
        · exact .inr (.inr h)
      rcases hk with hk | hk | hk
      · rw [hk]; exact step_table _ w' W.heap.size vts hs hP _ _ _ _ _ _ _ _ _ (hR.lst i hi) (by omega)
      · rw [hk]; exact step_write _ w' W.heap.size vts hs hP _ _ _ _ _ _ _ _ (by omega) (hR.ra i hi) (hR.rb i hi) (hR.rc i hi)
      · rw [hk]; exact step_compile _ w' W.heap.size vts hs hP _ _ _ _ _ _ _ _ (by omega) (hR.str i hi))
  clear hO hO1 h b0 k0
  go_enter Tryz.func6, Tryz.ntmps6
  go_wp2_with fail
  rw [← hW]
  clear hW
  refine HC.mono ?_
  rintro e w1 ⟨rfl, hB1⟩
  clear HC
  go_wp2_with fail
  go_ret
  exact ⟨rfl, BW.trans (hB1.mono (by omega))⟩
end Go.Proofs.YtpngikmcjkjdaaaGreatDoor
