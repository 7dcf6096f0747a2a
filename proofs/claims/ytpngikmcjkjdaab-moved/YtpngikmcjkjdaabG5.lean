import Derived.Deep.AppendLies
import Derived.Deep.RegionLaw
import Derived.Test.YtpngikmcjkjdaabG3
import Derived.Test.YtpngikmcjkjdaabG4
set_option linter.unusedVariables false
set_option linter.unusedSimpArgs false
namespace Go.Proofs.Ytpngikmcjkjdaab
open Go.RowKit
set_option linter.unusedVariables false
set_option linter.unusedSimpArgs false
def wantL (d : Cu) (M : Tab) (t : Nat → ByteArray) : Nat → List ByteArray
  | 0 => []
  | i + 1 => if wantB d M (t i) then wantL d M t i ++ [t i] else wantL d M t i
theorem wantL_yes {d : Cu} {M : Tab} {t : Nat → ByteArray} {i : Nat} (h : wantB d M (t i) = true) : wantL d M t (i + 1) = wantL d M t i ++ [t i] := by rw [wantL, if_pos h]
theorem wantL_no {d : Cu} {M : Tab} {t : Nat → ByteArray} {i : Nat} (h : wantB d M (t i) = false) : wantL d M t (i + 1) = wantL d M t i := by rw [wantL, h]; rfl
theorem wantL_len (d : Cu) (M : Tab) (t : Nat → ByteArray) : ∀ i, (wantL d M t i).length ≤ i
  | 0 => by simp [wantL]
  | i + 1 => by
    have := wantL_len d M t i
    cases h : wantB d M (t i) with
    | true => rw [wantL_yes h]; simp; omega
    | false => rw [wantL_no h]; omega
theorem wantL_pre (d : Cu) (M : Tab) (t : Nat → ByteArray) (i : Nat) : ∀ k, wantL d M t i <+: wantL d M t (i + k)
  | 0 => List.prefix_rfl
  | k + 1 => by
    have ih := wantL_pre d M t i k
    rw [← Nat.add_assoc]
    cases h : wantB d M (t (i + k)) with
    | true => rw [wantL_yes h]; exact ih.trans (List.prefix_append _ _)
    | false => rw [wantL_no h]; exact ih
def chooseL (d : Cu) (M : Tab) (t : Nat → ByteArray) (n limit : Nat) : List ByteArray := (wantL d M t n).take limit
def chooseB (d : Cu) (M : Tab) (t : Nat → ByteArray) (n limit : Nat) : Bool := decide ((wantL d M t n).length ≤ limit)
theorem choose_all {d : Cu} {M : Tab} {t : Nat → ByteArray} {n limit : Nat} (h : (wantL d M t n).length ≤ limit) : chooseL d M t n limit = wantL d M t n ∧ chooseB d M t n limit = true := by
  exact ⟨List.take_of_length_le h, by simp [chooseB, h]⟩
theorem choose_cut {d : Cu} {M : Tab} {t : Nat → ByteArray} {n limit i : Nat} (hi : i < n) (h : (wantL d M t i).length = limit) (hw : wantB d M (t i) = true) : chooseL d M t n limit = wantL d M t i ∧ chooseB d M t n limit = false := by
  have hp := wantL_pre d M t (i + 1) (n - (i + 1))
  rw [Nat.add_sub_cancel' (by omega), wantL_yes hw] at hp
  have hp2 : wantL d M t i <+: wantL d M t n := (List.prefix_append _ _).trans hp
  have hl := hp.length_le
  rw [List.length_append, List.length_singleton, h] at hl
  refine ⟨?_, by simp [chooseB]; omega⟩
  rw [chooseL, ← h]
  exact (List.prefix_iff_eq_take.1 hp2).symm
set_option maxRecDepth 20000 in
set_option maxHeartbeats 4000000 in
theorem choose_ok (w : World) (bx n limit : Nat) (t : Nat → ByteArray) (cx : Nat → Value) (d : Cu) (V : Lay) (M : Tab) (h : BxAt w bx t n cx) (hn : n ≤ 60) (hl : limit ≤ 50) (htu : ∀ i, i < n → tuneB (t i) = true) (hA : d.vA = .slice (some ⟨V.ba, V.oa, none⟩) M.n V.ca) (hN : d.vN = .slice (some ⟨V.bn, V.on, none⟩) M.n V.cn) (hM : M.Ok) (hT : TabAt w V M) :
    Calls Try.prog 68 #[.pointer (some ⟨bx, 0, none⟩), .agg #[.bool d.op, d.vA, d.vN, .bool d.bg, .string d.la], .int .i64 (limit : Int)] w fun e w' => Below w.heap.size w w' ∧ ∃ v, e = .returned (.tuple #[v, .bool (chooseB d M t n limit)]) ∧ w'.ownsRow w.heap.size 9 1 v (chooseL d M t n limit).length (strs (chooseL d M t n limit)) := by
  obtain ⟨i0, hi0, hz0, hz01, hz02⟩ := info_parts Try.infoStr
  obtain ⟨W, hW⟩ : ∃ W, W = w.alloc (.cells #[.bool d.op, .slice (some ⟨V.ba, V.oa, none⟩) M.n V.ca, .slice (some ⟨V.bn, V.on, none⟩) M.n V.cn, .bool d.bg, .string d.la] 74) := ⟨_, rfl⟩
  have BW : Below w.heap.size w W := by rw [hW]; exact (Below.refl _ _).alloc (Nat.le_refl _) _
  have hWs : w.heap.size < W.heap.size := by rw [hW]; simp
  have b0 : W.heap[w.heap.size]? = some (.cells #[.bool d.op, .slice (some ⟨V.ba, V.oa, none⟩) M.n V.ca, .slice (some ⟨V.bn, V.on, none⟩) M.n V.cn, .bool d.bg, .string d.la] 74 (0, 0)) := by rw [hW]; exact heap_at_new rfl
  have HCC : ∀ wj, Below W.heap.size W wj → wj.cell? ⟨w.heap.size, 0, none⟩ = some (.bool d.op) ∧ wj.cell? ⟨w.heap.size, 1, none⟩ = some (.slice (some ⟨V.ba, V.oa, none⟩) M.n V.ca) ∧ wj.cell? ⟨w.heap.size, 2, none⟩ = some (.slice (some ⟨V.bn, V.on, none⟩) M.n V.cn) ∧ wj.cell? ⟨w.heap.size, 3, none⟩ = some (.bool d.bg) ∧ wj.cell? ⟨w.heap.size, 4, none⟩ = some (.string d.la) := fun wj hb => by
    have := (hb.block _ hWs).trans b0
    simp [World.cell?, this]
  have HWANT : Hid (∀ (wj : World) (s : ByteArray), TabAt wj V M → tuneB s = true → Calls Try.prog 84 #[.agg #[.bool d.op, .slice (some ⟨V.ba, V.oa, none⟩) M.n V.ca, .slice (some ⟨V.bn, V.on, none⟩) M.n V.cn, .bool d.bg, .string d.la], .string s] wj fun e w' => e = .returned (.bool (wantB d M s)) ∧ Below wj.heap.size wj w') := fun wj s h1 h2 => by
    have := wants_ok wj d V M s hA hN hM h1 h2
    rw [hA, hN] at this
    exact this
  rw [hA, hN]
  clear hA hN b0
  go_enter Try.func68, Try.ntmps68
  go_upto_region 1 with fail
  rw [← hW]
  clear hW
  go_wp2_with fail
  go_loopw [8, 9] (fun v i' wr => ∃ i : Nat, i ≤ n ∧ i' = .int .i64 (i : Int) ∧ Below W.heap.size W wr ∧ wr.ownsRow W.heap.size 9 1 v (wantL d M t i).length (strs (wantL d M t i)) ∧ (wantL d M t i).length ≤ limit) (fun _ i' _ => n - (intOf i').toNat)
  case atStart => exact ⟨0, by omega, rfl, Below.refl _ _, World.ownsRow_nil _ _ _ _, by simp [wantL]⟩
  case round =>
    obtain ⟨i, hi, rfl, hb, hown, hlen⟩ := hrel
    obtain ⟨oa, oc, hv, _⟩ := ownsRow_shape hown
    subst hv
    have hbw : Below w.heap.size w wr := BW.trans (hb.mono (by omega))
    have hx := h.below hbw
    have c60 := hx.cnt
    have hbs := hb.size
    have HB : Hid (Below W.heap.size W wr) := hb
    have HO : Hid (wr.ownsRow W.heap.size 9 1 (.slice oa (wantL d M t i).length oc) (wantL d M t i).length (strs (wantL d M t i))) := hown
    by_cases hlt : i < n
    · have cI := hx.tune hn hlt
      obtain ⟨k0, k1, k2, k3, k4⟩ := HCC wr hb
      have q1 : (i : Int) < (n : Int) := by omega
      have HW := HWANT.out wr (t i) (hT.below hbw) (htu i hlt)
      clear hx hb hown h hT
      cases hwb : wantB d M (t i) with
      | false =>
        rw [hwb] at HW
        have HNO : Hid (wantL d M t (i + 1) = wantL d M t i) := wantL_no hwb
        clear hwb
        go_wp2_with (go_at_call 84; refine HW.mono ?_; rintro e w2 ⟨rfl, hb2⟩; have HB2 : Hid (Below wr.heap.size wr w2) := hb2; clear hb2)
        go_roundw
        case rel =>
          refine ⟨i + 1, by omega, by go_num, HB.out.trans (HB2.out.mono hbs), ?_, by rw [HNO.out]; omega⟩
          rw [HNO.out]
          exact ownsRow_below HO.out HB2.out
        case measure => simp [intOf]; omega
      | true =>
        rw [hwb] at HW
        by_cases hfull : (wantL d M t i).length = limit
        · obtain ⟨f1, f2⟩ := choose_cut hlt hfull hwb
          have HF1 : Hid (chooseL d M t n limit = wantL d M t i) := f1
          have HF2 : Hid (chooseB d M t n limit = false) := f2
          have q2 : (((wantL d M t i).length : Int) == (limit : Int)) = true := by simp [hfull]
          clear hwb f1 f2 hfull
          go_wp2_with (go_at_call 84; refine HW.mono ?_; rintro e w2 ⟨rfl, hb2⟩; have HB2 : Hid (Below wr.heap.size wr w2) := hb2; clear hb2)
          go_ret2
          refine ⟨BW.trans ((HB.out.trans (HB2.out.mono hbs)).mono (by omega)), .slice oa (wantL d M t i).length oc, ?_, ?_⟩
          · rw [HF2.out]; rfl
          · rw [HF1.out]
            have := ownsRow_below HO.out HB2.out
            refine ⟨this.1, ?_⟩
            rcases this.2 with e1 | ⟨g, cap, cur, e1, e2, r⟩
            · exact .inl e1
            · exact .inr ⟨g, cap, cur, e1, by omega, r⟩
        · have q2 : (((wantL d M t i).length : Int) == (limit : Int)) = false := by simp; omega
          have HYES : Hid (wantL d M t (i + 1) = wantL d M t i ++ [t i]) := wantL_yes hwb
          have hwl := wantL_len d M t i
          have HNA : ∀ w2, Below wr.heap.size wr w2 → (w2.alloc (.cells #[.string (t i)] 9)).ownsRow W.heap.size 9 1 (.slice oa (wantL d M t i).length oc) (wantL d M t i).length (strs (wantL d M t i)) ∧ wr.heap.size ≤ w2.heap.size := fun w2 hb2 => ⟨(ownsRow_below HO.out hb2).alloc _, hb2.size⟩
          have HOW : Hid (∀ y, (Value.slice oa (wantL d M t i).length oc).ownBlock = some y → W.heap.size ≤ y) := fun y e => (HO.out.lt y e).1
          have HFU : Hid (¬ (wantL d M t i).length = limit) := hfull
          clear hwb hfull
          go_wp2_with (first
            | (go_at_call 84; refine HW.mono ?_; rintro e w2 ⟨rfl, hb2⟩; obtain ⟨hna, hs2⟩ := HNA w2 hb2; have HB2 : Hid (Below wr.heap.size wr w2) := hb2; clear hb2 HNA)
            | (at_builtin; refine wpList_append_fresh _ rfl _ _ 39 rfl W.heap.size 9 i0 (.string ByteArray.empty) 1 16 Try.underlying39 hi0 hz0 hz01 hz02 rfl (by decide) _ (wantL d M t i).length (strs (wantL d M t i)) rfl hna ⟨w2.heap.size, 0, none⟩ 1 1 [.string (t i)] rfl rfl (cell_one_new _ _ _) (by intro u hu; simp at hu; subst hu; rfl) (by decide) (by unfold maxLen; omega) (by omega) (by simp; omega) ?_; intro g' cap' w3 hown3 hgr hfr; have HO3 : Hid (w3.ownsRow W.heap.size 9 1 (.slice (some ⟨g', 0, none⟩) ((wantL d M t i).length + 1) cap') ((wantL d M t i).length + 1) (strs (wantL d M t i) ++ [.string (t i)])) := hown3; have HG3 : Hid ((w2.alloc (.cells #[.string (t i)] 9)).grownBy w3 (Value.slice oa (wantL d M t i).length oc).ownBlock) := hgr; clear hown3 hgr hfr))
          go_roundw
          case rel =>
            have ho := HO3.out
            rw [strs_snoc] at ho
            have hfu := HFU.out
            refine ⟨i + 1, by omega, by go_num, ((HB.out.trans (HB2.out.mono hbs)).alloc (by omega) _).grown HG3.out (by simp; omega) (fun y e => HOW.out y e), ?_, by rw [HYES.out, List.length_append, List.length_singleton]; omega⟩
            rw [HYES.out, List.length_append, List.length_singleton]
            exact ho
          case measure => simp [intOf]; omega
    · have q1 : ¬ (i : Int) < (n : Int) := by omega
      have e : i = n := by omega
      subst e
      obtain ⟨f1, f2⟩ := choose_all hlen
      have HF1 : Hid (chooseL d M t i limit = wantL d M t i) := f1
      have HF2 : Hid (chooseB d M t i limit = true) := f2
      clear f1 f2 hx hb hown h hT
      go_wp2_with fail
      go_ret2
      refine ⟨BW.trans (HB.out.mono (by omega)), .slice oa (wantL d M t i).length oc, ?_, ?_⟩
      · rw [HF2.out]; rfl
      · rw [HF1.out]
        have := HO.out
        refine ⟨this.1, ?_⟩
        rcases this.2 with e1 | ⟨g, cap, cur, e1, e2, r⟩
        · exact .inl e1
        · exact .inr ⟨g, cap, cur, e1, by omega, r⟩
theorem BxAt.give {w : World} {bx n : Nat} {t : Nat → ByteArray} {c : Nat → Cu} (h : BxAt w bx t n (cuv c)) {k : Nat} (hk : k < 4) (s : ByteArray) :
    BxAt ((w.setCell ⟨bx, 61 + 5 * k + 3, none⟩ (.bool true)).setCell ⟨bx, 61 + 5 * k + 4, none⟩ (.string s)) bx t n (cuv (setCu c k { c k with bg := true, la := s })) ∧
    Touch (fun j => j = bx) w ((w.setCell ⟨bx, 61 + 5 * k + 3, none⟩ (.bool true)).setCell ⟨bx, 61 + 5 * k + 4, none⟩ (.string s)) := by
  refine ⟨((World.rowIs.set h (61 + 5 * k + 3) (.bool true)).set (61 + 5 * k + 4) (.string s)).congr (fun j hj => ?_), ((Touch.refl (fun j => j = bx) w).set ⟨bx, 61 + 5 * k + 3, none⟩ (.bool true) (.inl rfl)).set ⟨bx, 61 + 5 * k + 4, none⟩ (.string s) (.inl rfl)⟩
  unfold bookv cuv setCu
  by_cases a : j < 60
  · simp only [a, if_true, show ¬ j = 61 + 5 * k + 4 by omega, show ¬ j = 61 + 5 * k + 3 by omega, if_false]
  · by_cases b : j = 60
    · simp only [b, show ¬ (60 : Nat) = 61 + 5 * k + 4 by omega, show ¬ (60 : Nat) = 61 + 5 * k + 3 by omega, if_false]
      simp
    · by_cases q : (j - 61) / 5 = k
      · simp only [a, b, q, if_false, if_true]
        rcases (show (j - 61) % 5 = 0 ∨ (j - 61) % 5 = 1 ∨ (j - 61) % 5 = 2 ∨ (j - 61) % 5 = 3 ∨ (j - 61) % 5 = 4 by omega) with f | f | f | f | f
        · simp only [f, show ¬ j = 61 + 5 * k + 4 by omega, show ¬ j = 61 + 5 * k + 3 by omega, if_false, if_true]
        · simp only [f, show ¬ j = 61 + 5 * k + 4 by omega, show ¬ j = 61 + 5 * k + 3 by omega, if_false, if_true, show ¬ (1 : Nat) = 0 by omega]
        · simp only [f, show ¬ j = 61 + 5 * k + 4 by omega, show ¬ j = 61 + 5 * k + 3 by omega, if_false, if_true, show ¬ (2 : Nat) = 0 by omega, show ¬ (2 : Nat) = 1 by omega]
        · have e : j = 61 + 5 * k + 3 := by omega
          simp only [f, if_pos e, show ¬ j = 61 + 5 * k + 4 by omega, if_false, if_true, show ¬ (3 : Nat) = 0 by omega, show ¬ (3 : Nat) = 1 by omega, show ¬ (3 : Nat) = 2 by omega]
        · have e : j = 61 + 5 * k + 4 := by omega
          simp only [f, if_pos e, if_false, show ¬ (4 : Nat) = 0 by omega, show ¬ (4 : Nat) = 1 by omega, show ¬ (4 : Nat) = 2 by omega, show ¬ (4 : Nat) = 3 by omega]
      · simp only [a, b, q, if_false, show ¬ j = 61 + 5 * k + 4 by omega, show ¬ j = 61 + 5 * k + 3 by omega]
theorem touch_of_below' {S : Nat → Prop} {w w1 : World} (hB : Below w.heap.size w w1) : Touch S w w1 := ⟨hB.os, hB.tape, hB.output, hB.size, fun k hk _ => hB.block k hk⟩
theorem strs_got? {l : List ByteArray} {i : Nat} {x : ByteArray} (h : l[i]? = some x) : (strs l)[i]? = some (.string x) := by simp [strs, h]
theorem touch_then' {S : Nat → Prop} {w w1 w2 : World} (h1 : Touch S w w1) (h2 : Touch S w1 w2) : Touch S w w2 :=
  ⟨h2.os.trans h1.os, h2.tape.trans h1.tape, h2.output.trans h1.output, Nat.le_trans h1.size h2.size, fun k hk hs => (h2.block k (Nat.lt_of_lt_of_le hk h1.size) hs).trans (h1.block k hk hs)⟩
theorem own_keep_bx {w w1 : World} {bx n base m : Nat} {t : Nat → ByteArray} {cx : Nat → Value} {v : Value} {x : List Value} (ho : w.ownsRow base 9 1 v m x) (h : BxAt w bx t n cx) (hT : Touch (fun j => j = bx) w w1) : w1.ownsRow base 9 1 v m x := by
  refine hT.own ho (fun g hg hgb => ?_)
  subst hgb
  obtain ⟨c, hb, _⟩ := h
  rcases ho.2 with ⟨rfl, _⟩ | ⟨g', cap, cur, rfl, _, h2, _⟩
  · simp [Value.ownBlock] at hg
  · simp only [Value.ownBlock, Option.some.injEq] at hg
    subst hg
    rw [hb] at h2
    injection h2 with h2
    injection h2 with _ h2
    exact absurd h2 (by decide)
theorem own_ne_bx {w : World} {bx n base m g : Nat} {t : Nat → ByteArray} {cx : Nat → Value} {v : Value} {x : List Value} (ho : w.ownsRow base 9 1 v m x) (h : BxAt w bx t n cx) (hg : v.ownBlock = some g) : g ≠ bx := by
  rintro rfl
  obtain ⟨c, hb, _⟩ := h
  rcases ho.2 with ⟨rfl, _⟩ | ⟨g', cap, cur, rfl, _, h2, _⟩
  · simp [Value.ownBlock] at hg
  · simp only [Value.ownBlock, Option.some.injEq] at hg
    subst hg
    rw [hb] at h2
    injection h2 with h2
    injection h2 with _ h2
    exact absurd h2 (by decide)
def nextC (c : Nat → Cu) (k : Nat) (L : List ByteArray) : Nat → Cu := match L.getLast? with
  | some s => setCu c k { c k with bg := true, la := s }
  | none => c
set_option maxRecDepth 20000 in
set_option maxHeartbeats 4000000 in
theorem bnext_ok (w : World) (bx n m limit : Nat) (t : Nat → ByteArray) (c : Nat → Cu) (V : Lay) (M : Tab) (h : BxAt w bx t n (cuv c)) (hn : n ≤ 60) (hm : m < 4) (hop : (c m).op = true) (hl1 : 1 ≤ limit) (hl : limit ≤ 50) (htu : ∀ i, i < n → tuneB (t i) = true)
    (hA : (c m).vA = .slice (some ⟨V.ba, V.oa, none⟩) M.n V.ca) (hN : (c m).vN = .slice (some ⟨V.bn, V.on, none⟩) M.n V.cn) (hM : M.Ok) (hT : TabAt w V M) :
    Calls Try.prog 49 #[.pointer (some ⟨bx, 0, none⟩), .int .i64 (m : Int), .int .i64 (limit : Int)] w fun e w' => ∃ v, e = .returned (.tuple #[v, .bool (chooseB (c m) M t n limit), .int .i64 0]) ∧ w'.ownsRow w.heap.size 9 1 v (chooseL (c m) M t n limit).length (strs (chooseL (c m) M t n limit)) ∧ BxAt w' bx t n (cuv (nextC c m (chooseL (c m) M t n limit))) ∧ Touch (fun j => j = bx) w w' := by
  have HO := isOpen_ok w bx n t c m h
  rw [opB_at c hm, hop] at HO
  have HCH := choose_ok w bx n limit t (cuv c) (c m) V M h hn hl htu hA hN hM hT
  obtain ⟨c0, c1, c2, c3, c4⟩ := h.cu hm
  have hfz := World.rowIs.frozen h
  have hbl := World.rowIs.lt h
  have HX : Hid (BxAt w bx t n (cuv c)) := h
  rw [hA, hN] at HCH
  rw [hA] at c1
  rw [hN] at c2
  obtain ⟨d, HD⟩ : ∃ d, Hid (c m = d) := ⟨_, by unfold Hid; rfl⟩
  rw [HD.out] at HCH c0 c3 c4 ⊢
  obtain ⟨L, HL⟩ : ∃ L, Hid (chooseL d M t n limit = L) := ⟨_, by unfold Hid; rfl⟩
  rw [HL.out] at HCH ⊢
  generalize chooseB d M t n limit = fb at *
  have q1 : ¬ (limit : Int) < 1 := by omega
  have q2 : ¬ (50 : Int) < (limit : Int) := by omega
  have hLl : L.length ≤ 60 := by
    rw [← HL.out, chooseL, List.length_take]
    have := wantL_len d M t n
    omega
  clear h hop htu hA hN hM hT
  by_cases hL0 : L = []
  · have HE : Hid (nextC c m L = c) := by unfold Hid; rw [hL0]; rfl
    rw [HE.out]
    have q3 : ¬ (0 : Int) < (L.length : Int) := by rw [hL0]; simp
    clear hL0
    rcases (show m = 0 ∨ m = 1 ∨ m = 2 ∨ m = 3 by omega) with rfl | rfl | rfl | rfl
    all_goals
      go_enter Try.func49, Try.ntmps49
      go_wp2_with (first
          | (go_at_call 67; refine HO.mono ?_; rintro e w1 ⟨rfl, hw1⟩; obtain rfl : w = w1 := hw1.symm)
          | (go_at_call 68; refine HCH.mono ?_; rintro e w2 ⟨hb2, v, rfl, ho2⟩; obtain ⟨va, vc, rfl, hvs⟩ := ownsRow_shape ho2;  have HB2 : Hid (Below w.heap.size w w2) := hb2; have HO2 : Hid (w2.ownsRow w.heap.size 9 1 (.slice va L.length vc) L.length (strs L)) := ho2; clear hb2 ho2 hvs))
      go_ret3
      exact ⟨_, rfl, HO2.out, HX.out.below HB2.out, touch_of_below' HB2.out⟩
  · obtain ⟨s, hs⟩ : ∃ s, L.getLast? = some s := ⟨L.getLast hL0, List.getLast?_eq_some_getLast hL0⟩
    have hpos : 0 < L.length := List.length_pos_iff.2 hL0
    have hlast : L[L.length - 1]? = some s := by rw [← List.getLast?_eq_getElem?]; exact hs
    have HE : Hid (nextC c m L = setCu c m { c m with bg := true, la := s }) := by unfold Hid nextC; rw [hs]
    rw [HE.out]
    have q3 : (0 : Int) < (L.length : Int) := by omega
    obtain ⟨ln, HLN⟩ : ∃ ln, Hid (L.length = ln + 1) := ⟨L.length - 1, by unfold Hid; omega⟩
    have HLA : ∀ (w2 : World) (va : Option Addr), (0 < L.length → ∃ g, va = some ⟨g, 0, none⟩ ∧ ∀ j, j < L.length * 1 → w2.cell? ⟨g, j, none⟩ = (strs L)[j]?) → ∃ g, va = some ⟨g, 0, none⟩ ∧ w2.cell? ⟨g, ln, none⟩ = some (Value.string s) := fun w2 va hv => by
      obtain ⟨g, e1, e2⟩ := hv hpos
      have hl2 := HLN.out
      refine ⟨g, e1, (e2 ln (by omega)).trans (strs_got? ?_)⟩
      have : ln = L.length - 1 := by omega
      rw [this]; exact hlast
    have HBX : ∀ w2, Below w.heap.size w w2 → BxAt w2 bx t n (cuv c) := fun w2 hb => HX.out.below hb
    have hwl : IntKind.i64.wrap (ln : Int) = (ln : Int) := by rw [IntKind.wrap_i64]; have := HLN.out; omega
    rw [HLN.out] at HCH q3 ⊢
    clear hL0 hs hlast hpos
    rcases (show m = 0 ∨ m = 1 ∨ m = 2 ∨ m = 3 by omega) with rfl | rfl | rfl | rfl
    · go_enter Try.func49, Try.ntmps49
      go_wp2_with (first
        | (go_at_call 67; refine HO.mono ?_; rintro e w1 ⟨rfl, hw1⟩; obtain rfl : w = w1 := hw1.symm)
        | (go_at_call 68; refine HCH.mono ?_; rintro e w2 ⟨hb2, v, rfl, ho2⟩; obtain ⟨va, vc, rfl, hvs⟩ := ownsRow_shape ho2; rw [← HLN.out] at hvs; obtain ⟨g, rfl, cl⟩ := HLA w2 va hvs; have hx2 := HBX w2 hb2; obtain ⟨d0, d1, d2, d3, d4⟩ := hx2.cu (k := 0) (by omega); have f3 := World.rowIs.frozen hx2 64; have f4 := World.rowIs.frozen hx2 65; have HX2 : Hid (BxAt w2 bx t n (cuv c)) := hx2; have HB2 : Hid (Below w.heap.size w w2) := hb2; have HO2 : Hid (w2.ownsRow w.heap.size 9 1 (.slice (some ⟨g, 0, none⟩) (ln + 1) vc) (ln + 1) (strs L)) := ho2; clear hb2 ho2 hvs hx2 HLA HBX))
      have hgb : g ≠ bx := own_ne_bx HO2.out HX2.out rfl
      have cl2 := (cell_set_other (w := w2) (p := ⟨bx, 64, none⟩) (q := ⟨g, ln, none⟩) (u := .bool true) hgb).trans cl
      obtain ⟨y4, d4b⟩ : ∃ y, (w2.setCell ⟨bx, 64, none⟩ (.bool true)).cell? ⟨bx, 65, none⟩ = some y := ⟨_, (World.rowIs.set HX2.out 64 (.bool true)).cell (i := 65) (by omega)⟩
      have f4b : (w2.setCell ⟨bx, 64, none⟩ (.bool true)).frozen? ⟨bx, 65, none⟩ = false := (World.rowIs.set HX2.out 64 (.bool true)).frozen 65
      have qln : (ln : Int) < (ln : Int) + 1 := by omega
      go_region
      go_wp2_with fail
      go_ret3
      have hg := HX2.out.give (k := 0) (by omega) s
      refine ⟨_, rfl, own_keep_bx HO2.out HX2.out ⟨hg.2.os, hg.2.tape, hg.2.output, hg.2.size, hg.2.block⟩, hg.1, touch_then' (touch_of_below' HB2.out) ⟨hg.2.os, hg.2.tape, hg.2.output, hg.2.size, hg.2.block⟩⟩
    · go_enter Try.func49, Try.ntmps49
      go_wp2_with (first
        | (go_at_call 67; refine HO.mono ?_; rintro e w1 ⟨rfl, hw1⟩; obtain rfl : w = w1 := hw1.symm)
        | (go_at_call 68; refine HCH.mono ?_; rintro e w2 ⟨hb2, v, rfl, ho2⟩; obtain ⟨va, vc, rfl, hvs⟩ := ownsRow_shape ho2; rw [← HLN.out] at hvs; obtain ⟨g, rfl, cl⟩ := HLA w2 va hvs; have hx2 := HBX w2 hb2; obtain ⟨d0, d1, d2, d3, d4⟩ := hx2.cu (k := 1) (by omega); have f3 := World.rowIs.frozen hx2 69; have f4 := World.rowIs.frozen hx2 70; have HX2 : Hid (BxAt w2 bx t n (cuv c)) := hx2; have HB2 : Hid (Below w.heap.size w w2) := hb2; have HO2 : Hid (w2.ownsRow w.heap.size 9 1 (.slice (some ⟨g, 0, none⟩) (ln + 1) vc) (ln + 1) (strs L)) := ho2; clear hb2 ho2 hvs hx2 HLA HBX))
      have hgb : g ≠ bx := own_ne_bx HO2.out HX2.out rfl
      have cl2 := (cell_set_other (w := w2) (p := ⟨bx, 69, none⟩) (q := ⟨g, ln, none⟩) (u := .bool true) hgb).trans cl
      obtain ⟨y4, d4b⟩ : ∃ y, (w2.setCell ⟨bx, 69, none⟩ (.bool true)).cell? ⟨bx, 70, none⟩ = some y := ⟨_, (World.rowIs.set HX2.out 69 (.bool true)).cell (i := 70) (by omega)⟩
      have f4b : (w2.setCell ⟨bx, 69, none⟩ (.bool true)).frozen? ⟨bx, 70, none⟩ = false := (World.rowIs.set HX2.out 69 (.bool true)).frozen 70
      have qln : (ln : Int) < (ln : Int) + 1 := by omega
      go_region
      go_wp2_with fail
      go_ret3
      have hg := HX2.out.give (k := 1) (by omega) s
      refine ⟨_, rfl, own_keep_bx HO2.out HX2.out ⟨hg.2.os, hg.2.tape, hg.2.output, hg.2.size, hg.2.block⟩, hg.1, touch_then' (touch_of_below' HB2.out) ⟨hg.2.os, hg.2.tape, hg.2.output, hg.2.size, hg.2.block⟩⟩
    · go_enter Try.func49, Try.ntmps49
      go_wp2_with (first
        | (go_at_call 67; refine HO.mono ?_; rintro e w1 ⟨rfl, hw1⟩; obtain rfl : w = w1 := hw1.symm)
        | (go_at_call 68; refine HCH.mono ?_; rintro e w2 ⟨hb2, v, rfl, ho2⟩; obtain ⟨va, vc, rfl, hvs⟩ := ownsRow_shape ho2; rw [← HLN.out] at hvs; obtain ⟨g, rfl, cl⟩ := HLA w2 va hvs; have hx2 := HBX w2 hb2; obtain ⟨d0, d1, d2, d3, d4⟩ := hx2.cu (k := 2) (by omega); have f3 := World.rowIs.frozen hx2 74; have f4 := World.rowIs.frozen hx2 75; have HX2 : Hid (BxAt w2 bx t n (cuv c)) := hx2; have HB2 : Hid (Below w.heap.size w w2) := hb2; have HO2 : Hid (w2.ownsRow w.heap.size 9 1 (.slice (some ⟨g, 0, none⟩) (ln + 1) vc) (ln + 1) (strs L)) := ho2; clear hb2 ho2 hvs hx2 HLA HBX))
      have hgb : g ≠ bx := own_ne_bx HO2.out HX2.out rfl
      have cl2 := (cell_set_other (w := w2) (p := ⟨bx, 74, none⟩) (q := ⟨g, ln, none⟩) (u := .bool true) hgb).trans cl
      obtain ⟨y4, d4b⟩ : ∃ y, (w2.setCell ⟨bx, 74, none⟩ (.bool true)).cell? ⟨bx, 75, none⟩ = some y := ⟨_, (World.rowIs.set HX2.out 74 (.bool true)).cell (i := 75) (by omega)⟩
      have f4b : (w2.setCell ⟨bx, 74, none⟩ (.bool true)).frozen? ⟨bx, 75, none⟩ = false := (World.rowIs.set HX2.out 74 (.bool true)).frozen 75
      have qln : (ln : Int) < (ln : Int) + 1 := by omega
      go_region
      go_wp2_with fail
      go_ret3
      have hg := HX2.out.give (k := 2) (by omega) s
      refine ⟨_, rfl, own_keep_bx HO2.out HX2.out ⟨hg.2.os, hg.2.tape, hg.2.output, hg.2.size, hg.2.block⟩, hg.1, touch_then' (touch_of_below' HB2.out) ⟨hg.2.os, hg.2.tape, hg.2.output, hg.2.size, hg.2.block⟩⟩
    · go_enter Try.func49, Try.ntmps49
      go_wp2_with (first
        | (go_at_call 67; refine HO.mono ?_; rintro e w1 ⟨rfl, hw1⟩; obtain rfl : w = w1 := hw1.symm)
        | (go_at_call 68; refine HCH.mono ?_; rintro e w2 ⟨hb2, v, rfl, ho2⟩; obtain ⟨va, vc, rfl, hvs⟩ := ownsRow_shape ho2; rw [← HLN.out] at hvs; obtain ⟨g, rfl, cl⟩ := HLA w2 va hvs; have hx2 := HBX w2 hb2; obtain ⟨d0, d1, d2, d3, d4⟩ := hx2.cu (k := 3) (by omega); have f3 := World.rowIs.frozen hx2 79; have f4 := World.rowIs.frozen hx2 80; have HX2 : Hid (BxAt w2 bx t n (cuv c)) := hx2; have HB2 : Hid (Below w.heap.size w w2) := hb2; have HO2 : Hid (w2.ownsRow w.heap.size 9 1 (.slice (some ⟨g, 0, none⟩) (ln + 1) vc) (ln + 1) (strs L)) := ho2; clear hb2 ho2 hvs hx2 HLA HBX))
      have hgb : g ≠ bx := own_ne_bx HO2.out HX2.out rfl
      have cl2 := (cell_set_other (w := w2) (p := ⟨bx, 79, none⟩) (q := ⟨g, ln, none⟩) (u := .bool true) hgb).trans cl
      obtain ⟨y4, d4b⟩ : ∃ y, (w2.setCell ⟨bx, 79, none⟩ (.bool true)).cell? ⟨bx, 80, none⟩ = some y := ⟨_, (World.rowIs.set HX2.out 79 (.bool true)).cell (i := 80) (by omega)⟩
      have f4b : (w2.setCell ⟨bx, 79, none⟩ (.bool true)).frozen? ⟨bx, 80, none⟩ = false := (World.rowIs.set HX2.out 79 (.bool true)).frozen 80
      have qln : (ln : Int) < (ln : Int) + 1 := by omega
      go_region
      go_wp2_with fail
      go_ret3
      have hg := HX2.out.give (k := 3) (by omega) s
      refine ⟨_, rfl, own_keep_bx HO2.out HX2.out ⟨hg.2.os, hg.2.tape, hg.2.output, hg.2.size, hg.2.block⟩, hg.1, touch_then' (touch_of_below' HB2.out) ⟨hg.2.os, hg.2.tape, hg.2.output, hg.2.size, hg.2.block⟩⟩
end Go.Proofs.Ytpngikmcjkjdaab

namespace Go.Proofs.Ytpngikmcjkjdaab
open Go.RowKit
set_option linter.unusedVariables false
set_option maxRecDepth 20000 in
set_option maxHeartbeats 2000000 in
theorem add_ok (gw base : Nat) (va vn : Value) (k : Nat) (xa xn : List Value) (a : Bool) (r : Nat → Nat) (w : World) (hb : w.heap[gw]? = some (.cells #[va, vn] 125 (0, 0)))
    (h0 : w.ownsRow base 4 1 va k xa) (h1 : w.ownsRow base 113 8 vn k xn) (hlt : gw < base) (hbase : base ≤ w.heap.size) (hk : k ≤ 100000000) :
    Calls Try.prog 78 #[.pointer (some ⟨gw, 0, none⟩), .bool a, .agg (row8 r)] w fun e w' => e = .returned (.tuple #[]) ∧
      ∃ va' vn', w'.heap[gw]? = some (.cells #[va', vn'] 125 (0, 0)) ∧ w'.ownsRow base 4 1 va' (k + 1) (xa ++ [.bool a]) ∧ w'.ownsRow base 113 8 vn' (k + 1) (xn ++ (row8 r).toList) ∧
        Touch (fun b => b = gw ∨ va.ownBlock = some b ∨ vn.ownBlock = some b) w w' ∧ (∀ g, va'.ownBlock = some g → va.ownBlock = some g ∨ w.heap.size ≤ g) ∧ (∀ g, vn'.ownBlock = some g → vn.ownBlock = some g ∨ w.heap.size ≤ g) := by
  obtain ⟨i4, hi4, hz4, hz41, hz42⟩ := info_parts Try.info4
  obtain ⟨i8, hi8, hz8, hz81, hz82⟩ := info_parts Try.infoE
  have hgs := heap_lt hb
  obtain ⟨W, hW⟩ : ∃ W, W = w.alloc (.cells (row8 r) 113) := ⟨_, rfl⟩
  have hWs : w.heap.size + 1 ≤ W.heap.size := by rw [hW]; simp
  have bw : W.heap[gw]? = some (.cells #[va, vn] 125 (0, 0)) := by rw [hW]; exact heap_at_old hb
  have br : W.heap[w.heap.size]? = some (.cells (row8 r) 113 (0, 0)) := by rw [hW]; exact heap_at_new rfl
  have T0 : Touch (fun b => b = gw ∨ va.ownBlock = some b ∨ vn.ownBlock = some b) w W := by rw [hW]; exact (Touch.refl _ _).alloc _
  have o0 : W.ownsRow base 4 1 va k xa := by rw [hW]; exact h0.alloc _
  have o1 : W.ownsRow base 113 8 vn k xn := by rw [hW]; exact h1.alloc _
  obtain ⟨y0, y1, z0, z1⟩ := cell_two bw
  have HX : Hid (W = w.alloc (.cells (row8 r) 113)) := hW
  unfold row8 at hW
  unfold row8
  go_enter Try.func78, Try.ntmps78
  go_upto_region 1 with fail
  rw [← hW]
  have l0 := fun g e => h0.lt g e
  have l1 := fun g e => h1.lt g e
  clear hW HX hb h0 h1
  have hna := o0.alloc (.cells #[.bool a] 4)
  have hbo : base ≤ (W.alloc (.cells #[.bool a] 4)).heap.size := by simp; omega
  have HG : ∀ g cap w2, w2.ownsRow base 4 1 (.slice (some ⟨g, 0, none⟩) (k + 1) cap) (k + 1) (xa ++ [.bool a]) → (W.alloc (.cells #[.bool a] 4)).grownBy w2 va.ownBlock → (va.ownBlock = some g ∨ g = (W.alloc (.cells #[.bool a] 4)).heap.size) →
      w2.heap[gw]? = some (.cells #[va, vn] 125 (0, 0)) ∧ Hid (Touch (fun b => b = gw ∨ va.ownBlock = some b ∨ vn.ownBlock = some b) w w2 ∧ w2.ownsRow base 113 8 vn k xn ∧ w2.heap[w.heap.size]? = some (.cells (row8 r) 113 (0, 0)) ∧ W.heap.size ≤ w2.heap.size) := by
    intro g cap w2 ho hg hf
    have hsz := hg.size
    simp at hsz
    refine ⟨?_, (T0.alloc _).grown hg (fun k e => .inl (.inr (.inl e))), ?_, ?_, by omega⟩
    · rw [hg.block gw (by simp; omega) (fun e => by have := (l0 gw e.symm).1; omega)]; exact heap_at_old bw
    · refine (o1.alloc _).kept hg ?_
      cases hv : vn.ownBlock with
      | none => exact .inl rfl
      | some x => exact .inr (fun e => own_apart o1 o0 (by decide) x hv e.symm)
    · rw [hg.block w.heap.size (by simp; omega) (fun e => by have h2 := (l0 _ e.symm).2; omega)]; exact heap_at_old br
  clear bw br T0 o0 o1
  have hss : gw < W.heap.size := by omega
  go_upto_region 2 with (at_builtin; refine wpList_append_fresh _ rfl _ _ 27 rfl base 4 i4 (.bool false) 1 1 Try.underlying27 hi4 hz4 hz41 hz42 rfl (by decide) _ k xa rfl hna ⟨W.heap.size, 0, none⟩ 1 1 [.bool a] rfl rfl (cell_one_new _ _ _) (by intro u hu; simp at hu; subst hu; rfl) (by decide) (by unfold maxLen; omega) (by omega) hbo ?_; intro g cap w2 hown hgr hfr; obtain ⟨f0, F⟩ := HG g cap w2 hown hgr hfr; obtain ⟨f3, f4, f5, f6⟩ := cell_two f0)
  obtain ⟨F1, F2, F3, F4⟩ := F.out
  obtain ⟨W5, hW5⟩ : ∃ W5, W5 = w2.setCell ⟨gw, 0, none⟩ (.slice (some ⟨g, 0, none⟩) (k + 1) cap) := ⟨_, rfl⟩
  have hW5s : w2.heap.size ≤ W5.heap.size := by rw [hW5]; simp
  have b5 : W5.heap[gw]? = some (.cells #[.slice (some ⟨g, 0, none⟩) (k + 1) cap, vn] 125 (0, 0)) := by rw [hW5]; exact two_set0 f0
  have r5 : W5.heap[w.heap.size]? = some (.cells (row8 r) 113 (0, 0)) := by rw [hW5]; exact heap_set_other F3 (by simp; omega)
  have T5 : Touch (fun b => b = gw ∨ va.ownBlock = some b ∨ vn.ownBlock = some b) w W5 := by rw [hW5]; exact F1.set _ _ (.inl (.inl rfl))
  have o05 : W5.ownsRow base 4 1 (.slice (some ⟨g, 0, none⟩) (k + 1) cap) (k + 1) (xa ++ [.bool a]) := by rw [hW5]; exact ownsRow_setCell_below hown (by simp; omega) _
  have o15 : W5.ownsRow base 113 8 vn k xn := by rw [hW5]; exact ownsRow_setCell_below F2 (by simp; omega) _
  have fa : va.ownBlock = some g ∨ w.heap.size ≤ g := by
    rcases hfr with h | h
    · exact .inl h
    · right; rw [h]; simp; omega
  rw [← hW5]
  clear hW5 f0 f3 f4 f5 f6 F F1 F2 F3 HG hgr hown hfr hna hbo y0 y1 z0 z1
  obtain ⟨y0, y1, z0, z1⟩ := cell_two b5
  have c0 := cell_of_row W5 w.heap.size 0 (row8 r) 113 (0, 0) r5
  have c1 := cell_of_row W5 w.heap.size 1 (row8 r) 113 (0, 0) r5
  have c2 := cell_of_row W5 w.heap.size 2 (row8 r) 113 (0, 0) r5
  have c3 := cell_of_row W5 w.heap.size 3 (row8 r) 113 (0, 0) r5
  have c4 := cell_of_row W5 w.heap.size 4 (row8 r) 113 (0, 0) r5
  have c5 := cell_of_row W5 w.heap.size 5 (row8 r) 113 (0, 0) r5
  have c6 := cell_of_row W5 w.heap.size 6 (row8 r) 113 (0, 0) r5
  have c7 := cell_of_row W5 w.heap.size 7 (row8 r) 113 (0, 0) r5
  simp [row8] at c0 c1 c2 c3 c4 c5 c6 c7
  have hna := o15.alloc (.cells (row8 r) 113)
  have hbo : base ≤ (W5.alloc (.cells (row8 r) 113)).heap.size := by simp; omega
  have hss5 : gw < W5.heap.size := by omega
  have HG : ∀ g' cap' w6, w6.ownsRow base 113 8 (.slice (some ⟨g', 0, none⟩) (k + 1) cap') (k + 1) (xn ++ (row8 r).toList) → (W5.alloc (.cells (row8 r) 113)).grownBy w6 vn.ownBlock → (vn.ownBlock = some g' ∨ g' = (W5.alloc (.cells (row8 r) 113)).heap.size) →
      w6.heap[gw]? = some (.cells #[.slice (some ⟨g, 0, none⟩) (k + 1) cap, vn] 125 (0, 0)) ∧ Hid (Touch (fun b => b = gw ∨ va.ownBlock = some b ∨ vn.ownBlock = some b) w w6 ∧ w6.ownsRow base 4 1 (.slice (some ⟨g, 0, none⟩) (k + 1) cap) (k + 1) (xa ++ [.bool a])) := by
    intro g' cap' w6 ho hg hf
    have hsz := hg.size
    simp at hsz
    refine ⟨?_, (T5.alloc _).grown hg (fun k e => .inl (.inr (.inr e))), ?_⟩
    · rw [hg.block gw (by simp; omega) (fun e => by have := (l1 gw e.symm).1; omega)]; exact heap_at_old b5
    · refine (o05.alloc _).kept hg ?_
      by_cases hv : vn.ownBlock = some g
      · exact absurd (own_apart o15 o05 (by decide) g hv rfl) id
      · exact .inr (fun e => hv e.symm)
  clear b5 r5 T5 o05 o15
  unfold row8 at hna hbo HG
  have HGG : Hid _ := HG
  clear HG
  go_region_law
    ((refine step_append_lies _ (by rfl) _ _ _ (by rfl) base 113 i8 (.agg #[.int .i64 0, .int .i64 0, .int .i64 0, .int .i64 0, .int .i64 0, .int .i64 0, .int .i64 0, .int .i64 0]) 8 64 Try.underlying123 hi8 hz8 hz81 hz82 rfl (by decide) vn k xn (by rfl) hna ⟨W5.heap.size, 0, none⟩ 1 1 [.int .i64 ((r 0 : Nat) : Int), .int .i64 ((r 1 : Nat) : Int), .int .i64 ((r 2 : Nat) : Int), .int .i64 ((r 3 : Nat) : Int), .int .i64 ((r 4 : Nat) : Int), .int .i64 ((r 5 : Nat) : Int), .int .i64 ((r 6 : Nat) : Int), .int .i64 ((r 7 : Nat) : Int)] (by rfl) (by rfl) (cells_new _ _ _) (by intro u hu; simp at hu; rcases hu with rfl | rfl | rfl | rfl | rfl | rfl | rfl | rfl <;> rfl) (by decide) (by unfold maxLen; omega) (by omega) (by simp; omega) (W5.heap.size + 1) (by simp) ?_; intro g' cap' w6 hown' hgr' hfr' hlt2; obtain ⟨f0, F⟩ := HGG.out g' cap' w6 hown' ⟨hgr'.os, hgr'.tape, hgr'.output, hgr'.size, hgr'.block⟩ (by simpa using hfr'); obtain ⟨f3, f4, f5, f6⟩ := cell_two f0; have HFR : Hid _ := hfr'; clear hfr'))
  all_goals go_wp2_with fail
  all_goals
    obtain ⟨F1, F2⟩ := F.out
    go_end0
    refine ⟨rfl, .slice (some ⟨g, 0, none⟩) (k + 1) cap, .slice (some ⟨g', 0, none⟩) (k + 1) cap', two_set1 f0, ownsRow_setCell_below F2 (by simp; omega) _, ownsRow_setCell_below hown' (by simp; omega) _, F1.set _ _ (.inl (.inl rfl)), ?_, ?_⟩
    · intro x hx
      simp only [Value.ownBlock, Option.some.injEq] at hx; subst hx; exact fa
    · intro x hx
      simp only [Value.ownBlock, Option.some.injEq] at hx; subst hx
      rcases HFR.out with h | h
      · exact .inl h
      · right; rw [h]; omega
end Go.Proofs.Ytpngikmcjkjdaab

namespace Go.Proofs.Ytpngikmcjkjdaab
open Go.RowKit
set_option linter.unusedVariables false
def zs (n : Nat) : Array Value := Array.replicate n (.int .i64 0)
def pcells (ps : List Nat) : List Value := ps.flatMap fun q => [.int .i64 ((q / 40 : Nat) : Int), .int .i64 ((q % 40 : Nat) : Int)]
def metv (ps : List Nat) (q : Nat) : Nat := if q ∈ ps then ps.idxOf q + 1 else 0
theorem metv_new (ps : List Nat) (q r : Nat) (hq : q ∉ ps) : metv (ps ++ [q]) r = if r = q then ps.length + 1 else metv ps r := by
  unfold metv
  by_cases e : r = q
  · subst e; simp [List.idxOf_append, hq]
  · by_cases h : r ∈ ps
    · simp [h, e, List.idxOf_append]
    · simp [h, e]
structure PairMem (W : World) (B : Nat) (w : World) (ps : List Nat) (vp va vn : Value) (k k' : Nat) (xa xn : List Value) : Prop where
  blw : Below (B + 1 + 1) W w
  blk : w.heap[B + 1 + 1]? = some (.cells #[va, vn] 125 (0, 0))
  met : w.rowIs (B + 1 + 1 + 1) 129 1600 (fun q => .int .i64 (metv ps q : Nat))
  own0 : w.ownsRow (B + 1 + 1 + 1 + 1) 4 1 va k xa
  own1 : w.ownsRow (B + 1 + 1 + 1 + 1) 113 8 vn k' xn
  own2 : w.ownsRow (B + 1 + 1 + 1 + 1) 131 2 vp ps.length (pcells ps)
structure RoundMem (W : World) (B H : Nat) (w : World) (ps : List Nat) (vp va vn : Value) (k : Nat) (xa xn : List Value) (i j : Nat) (r : Nat → Nat) : Prop where
  mem : PairMem W B w ps vp va vn k k xa xn
  here : w.heap[H]? = some (.cells #[.int .i64 (i : Int), .int .i64 (j : Int)] 131 (0, 0))
  rw : w.rowIs (H + 1) 113 8 (fun c => .int .i64 (r c : Nat))
  lo : B + 1 + 1 + 1 + 1 ≤ H
  dp : ∀ g, vp.ownBlock = some g → g ≠ H ∧ g ≠ H + 1
  da : ∀ g, va.ownBlock = some g → g < H
  dn : ∀ g, vn.ownBlock = some g → g < H
section
variable {W : World} {B H : Nat} {w w2 : World} {ps : List Nat} {vp va vn : Value} {k : Nat} {xa xn : List Value} {i j : Nat} {r : Nat → Nat}
theorem PairMem.alloc {k' : Nat} (h : PairMem W B w ps vp va vn k k' xa xn) (o : Obj) : PairMem W B (w.alloc o) ps vp va vn k k' xa xn where
  blw := h.blw.alloc (by have := heap_lt h.blk; omega) o
  blk := heap_at_old h.blk
  met := h.met.alloc o
  own0 := h.own0.alloc o
  own1 := h.own1.alloc o
  own2 := h.own2.alloc o
theorem RoundMem.alloc (h : RoundMem W B H w ps vp va vn k xa xn i j r) (o : Obj) : RoundMem W B H (w.alloc o) ps vp va vn k xa xn i j r :=
  ⟨h.mem.alloc o, heap_at_old h.here, h.rw.alloc o, h.lo, h.dp, h.da, h.dn⟩
theorem RoundMem.grown (h : RoundMem W B H w ps vp va vn k xa xn i j r) {q g cap : Nat} (hown : w2.ownsRow (B + 1 + 1 + 1 + 1) 131 2 (.slice (some ⟨g, 0, none⟩) (ps.length + 1) cap) (ps.length + 1) (pcells (ps ++ [q])))
    (hg : w.grownBy w2 vp.ownBlock) (hf : vp.ownBlock = some g ∨ g = w.heap.size) :
    Below (B + 1 + 1) W w2 ∧ w2.heap[B + 1 + 1]? = some (.cells #[va, vn] 125 (0, 0)) ∧ w2.rowIs (B + 1 + 1 + 1) 129 1600 (fun q => .int .i64 (metv ps q : Nat)) ∧
      w2.ownsRow (B + 1 + 1 + 1 + 1) 4 1 va k xa ∧ w2.ownsRow (B + 1 + 1 + 1 + 1) 113 8 vn k xn ∧
      w2.heap[H]? = some (.cells #[.int .i64 (i : Int), .int .i64 (j : Int)] 131 (0, 0)) ∧ w2.rowIs (H + 1) 113 8 (fun c => .int .i64 (r c : Nat)) ∧ (g ≠ H ∧ g ≠ H + 1) := by
  have hm := h.mem
  have hsz := heap_lt hm.blk
  have hlt := fun x e => hm.own2.lt x e
  have hH := heap_lt h.here
  have hH1 := h.rw.lt
  refine ⟨hm.blw.grown hg (by omega) (fun x e => by have := (hlt x e).1; omega), ?_, rowIs_grown hm.met hg (fun e => by have := (hlt _ e).1; omega), ?_, ?_, ?_, rowIs_grown h.rw hg (fun e => (h.dp _ e).2 rfl), ?_⟩
  · rw [hg.block _ hsz (fun e => by have := (hlt _ e.symm).1; omega)]; exact hm.blk
  · refine hm.own0.kept hg ?_
    cases hv : va.ownBlock with
    | none => exact .inl rfl
    | some x => exact .inr (fun e => own_apart hm.own0 hm.own2 (by decide) x hv e.symm)
  · refine hm.own1.kept hg ?_
    cases hv : vn.ownBlock with
    | none => exact .inl rfl
    | some x => exact .inr (fun e => own_apart hm.own1 hm.own2 (by decide) x hv e.symm)
  · rw [hg.block _ hH (fun e => (h.dp _ e.symm).1 rfl)]; exact h.here
  · rcases hf with hf | rfl
    · exact h.dp g hf
    · omega
theorem RoundMem.new (h : RoundMem W B H w ps vp va vn k xa xn i j r) {q g cap c : Nat} (hq : q ∉ ps) (hown : w2.ownsRow (B + 1 + 1 + 1 + 1) 131 2 (.slice (some ⟨g, 0, none⟩) (ps.length + 1) cap) (ps.length + 1) (pcells (ps ++ [q])))
    (hg : w.grownBy w2 vp.ownBlock) (hf : vp.ownBlock = some g ∨ g = w.heap.size) :
    RoundMem W B H ((w2.setCell ⟨B + 1 + 1 + 1, q, none⟩ (.int .i64 ((ps.length : Int) + 1))).setCell ⟨H + 1, c, none⟩ (.int .i64 (ps.length : Int))) (ps ++ [q]) (.slice (some ⟨g, 0, none⟩) (ps.length + 1) cap) va vn k xa xn i j (fun x => if x = c then ps.length else r x) := by
  obtain ⟨g1, g2, g3, g4, g5, g6, g7, g8⟩ := h.grown hown hg hf
  have hlo := h.lo
  refine ⟨⟨(g1.setCell (p := ⟨B + 1 + 1 + 1, q, none⟩) (by simp) _).setCell (p := ⟨H + 1, c, none⟩) (by simp; omega) _, heap_set_other (heap_set_other g2 (by simp)) (by simp; omega), ?_, ?_, ?_, ?_⟩,
    heap_set_other (heap_set_other g6 (by simp; omega)) (by simp), ?_, h.lo, ?_, h.da, h.dn⟩
  · refine ((g3.set q _).setOther (by simp; omega) _).congr (fun x _ => ?_)
    rw [metv_new ps q x hq]
    by_cases e : x = q
    · simp [e]
    · simp [e]
  · exact ownsRow_set (ownsRow_set g4 _ _ (fun x hx => by have := (g4.lt x hx).1; simp; omega)) _ _ (fun x hx => by have := h.da x hx; simp; omega)
  · exact ownsRow_set (ownsRow_set g5 _ _ (fun x hx => by have := (g5.lt x hx).1; simp; omega)) _ _ (fun x hx => by have := h.dn x hx; simp; omega)
  · simp only [List.length_append, List.length_singleton]
    exact ownsRow_set (ownsRow_set hown _ _ (fun x hx => by have := (hown.lt x hx).1; simp; omega)) _ _ (fun x hx => by simp only [Value.ownBlock, Option.some.injEq] at hx; subst hx; simpa using g8.2)
  · refine ((g7.setOther (a := ⟨B + 1 + 1 + 1, q, none⟩) (by simp; omega) _).set c _).congr (fun x _ => ?_)
    by_cases e : x = c
    · simp [e]
    · simp [e]
  · intro x hx
    simp only [Value.ownBlock, Option.some.injEq] at hx; subst hx; exact g8
theorem RoundMem.old (h : RoundMem W B H w ps vp va vn k xa xn i j r) {c v : Nat} :
    RoundMem W B H (w.setCell ⟨H + 1, c, none⟩ (.int .i64 (v : Int))) ps vp va vn k xa xn i j (fun x => if x = c then v else r x) := by
  have hm := h.mem
  have hlo := h.lo
  refine ⟨⟨hm.blw.setCell (p := ⟨H + 1, c, none⟩) (by simp; omega) _, heap_set_other hm.blk (by simp; omega), hm.met.setOther (by simp; omega) _, ?_, ?_, ?_⟩, heap_set_other h.here (by simp), ?_, h.lo, h.dp, h.da, h.dn⟩
  · exact ownsRow_set hm.own0 _ _ (fun x hx => by have := h.da x hx; simp; omega)
  · exact ownsRow_set hm.own1 _ _ (fun x hx => by have := h.dn x hx; simp; omega)
  · exact ownsRow_set hm.own2 _ _ (fun x hx => by have := (h.dp x hx).2; simpa using this)
  · refine (h.rw.set c _).congr (fun x _ => ?_)
    by_cases e : x = c
    · simp [e]
    · simp [e]
theorem RoundMem.drewN (h : RoundMem W B H w ps vp va vn k xa xn i j r) (q : Nat) : RoundMem W B H (w.drewN q) ps vp va vn k xa xn i j r :=
  ⟨⟨below_drewN h.mem.blw q, h.mem.blk, h.mem.met, h.mem.own0, h.mem.own1, h.mem.own2⟩, h.here, h.rw, h.lo, h.dp, h.da, h.dn⟩
theorem RoundMem.add (h : RoundMem W B H w ps vp va vn k xa xn i j r) {va' vn' : Value} {ya yn : List Value} (hb : w2.heap[B + 1 + 1]? = some (.cells #[va', vn'] 125 (0, 0)))
    (h0 : w2.ownsRow (B + 1 + 1 + 1 + 1) 4 1 va' (k + 1) ya) (h1 : w2.ownsRow (B + 1 + 1 + 1 + 1) 113 8 vn' (k + 1) yn)
    (ht : Touch (fun b => b = B + 1 + 1 ∨ va.ownBlock = some b ∨ vn.ownBlock = some b) w w2) : PairMem W B w2 ps vp va' vn' (k + 1) (k + 1) ya yn := by
  have hm := h.mem
  have hsz := heap_lt hm.blk
  refine ⟨ht.below hm.blw (by omega) ?_, hb, ht.row hm.met ?_, h0, h1, ht.own hm.own2 ?_⟩
  · rintro x (rfl | e | e)
    · omega
    · have := (hm.own0.lt _ e).1; omega
    · have := (hm.own1.lt _ e).1; omega
  · rintro (e | e | e)
    · omega
    · have := (hm.own0.lt _ e).1; omega
    · have := (hm.own1.lt _ e).1; omega
  · rintro g hg (rfl | e | e)
    · have := (hm.own2.lt _ hg).1; omega
    · exact own_apart hm.own2 hm.own0 (by decide) g hg e
    · exact own_apart hm.own2 hm.own1 (by decide) g hg e
theorem RoundMem.rcongr (h : RoundMem W B H w ps vp va vn k xa xn i j r) {r' : Nat → Nat} (e : ∀ x, x < 8 → r x = r' x) : RoundMem W B H w ps vp va vn k xa xn i j r' :=
  ⟨h.mem, h.here, h.rw.congr (fun x hx => by rw [e x hx]), h.lo, h.dp, h.da, h.dn⟩
end
end Go.Proofs.Ytpngikmcjkjdaab

namespace Go.Proofs.Ytpngikmcjkjdaab
open Go.RowKit
set_option linter.unusedVariables false
def rcells (X : Nat → Nat → Nat) : Nat → List Value
  | 0 => []
  | k + 1 => rcells X k ++ (List.range 8).map fun c => .int .i64 ((X k c : Nat) : Int)
def acells (A : Nat → Bool) : Nat → List Value
  | 0 => []
  | k + 1 => acells A k ++ [.bool (A k)]
theorem rcells_congr {X Y : Nat → Nat → Nat} {k : Nat} (h : ∀ i c, i < k → c < 8 → X i c = Y i c) : rcells X k = rcells Y k := by
  induction k with
  | zero => rfl
  | succ k ih =>
    simp only [rcells]
    rw [ih (fun i c hi hc => h i c (by omega) hc)]
    congr 1
    apply List.map_congr_left
    intro c hc
    rw [h k c (by omega) (by simpa using hc)]
theorem pn_new {good : Nat → Prop} {S : Nat → Nat → Nat} {ps : List Nat} {p q : Nat} (h : PRel good S ps p) (i c : Nat) (hc : c < 8) (hr : 8 * i + c < p) : pn S (ps ++ [q]) i c = pn S ps i c := by
  have hc := h.clo _ hr
  rw [show (8 * i + c) / 8 = i by omega, show (8 * i + c) % 8 = c by omega] at hc
  simp only [pn]
  rw [getD_app _ _ _ hc.1, List.idxOf_append, if_pos hc.2]
theorem acells_len (A : Nat → Bool) (k : Nat) : (acells A k).length = k := by
  induction k with
  | zero => rfl
  | succ k ih => simp [acells, ih]
theorem rcells_len (X : Nat → Nat → Nat) (k : Nat) : (rcells X k).length = k * 8 := by
  induction k with
  | zero => rfl
  | succ k ih => simp only [rcells, List.length_append, ih, List.length_map, List.length_range]; omega
theorem acells_at (A : Nat → Bool) (k i : Nat) (hi : i < k) : (acells A k)[i]? = some (.bool (A i)) := by
  induction k with
  | zero => omega
  | succ k ih =>
    simp only [acells]
    by_cases e : i = k
    · subst e; rw [List.getElem?_append_right (by rw [acells_len]; exact Nat.le_refl _), acells_len]; simp
    · rw [List.getElem?_append_left (by rw [acells_len]; omega)]; exact ih (by omega)
theorem rcells_at (X : Nat → Nat → Nat) (k i c : Nat) (hi : i < k) (hc : c < 8) : (rcells X k)[i * 8 + c]? = some (.int .i64 ((X i c : Nat) : Int)) := by
  induction k with
  | zero => omega
  | succ k ih =>
    simp only [rcells]
    by_cases e : i = k
    · subst e
      rw [List.getElem?_append_right (by rw [rcells_len]; omega), rcells_len, show i * 8 + c - i * 8 = c by omega]
      simp [hc]
    · rw [List.getElem?_append_left (by rw [rcells_len]; omega)]; exact ih (by omega)
end Go.Proofs.Ytpngikmcjkjdaab

namespace Go.Proofs.Ytpngikmcjkjdaab
open Go.RowKit
set_option linter.unusedVariables false
def scells (R C : Nat → Nat) (k : Nat) : List Value := (List.range k).map fun i => .slice (some ⟨R i, 0, none⟩) 8 (C i)
def icells (X : Nat → Nat) (k : Nat) : List Value := (List.range k).map fun c : Nat => .int .i64 ((X c : Nat) : Int)
theorem scells_succ (R C : Nat → Nat) (k : Nat) : scells R C (k + 1) = scells R C k ++ [.slice (some ⟨R k, 0, none⟩) 8 (C k)] := by simp [scells, List.range_succ]
theorem icells_succ (X : Nat → Nat) (k : Nat) : icells X (k + 1) = icells X k ++ [.int .i64 ((X k : Nat) : Int)] := by simp [icells, List.range_succ]
structure BuildMem (W : World) (b : Nat) (w : World) (va vn : Value) (ka kn : Nat) (A : Nat → Bool) (R C : Nat → Nat) (X : Nat → Nat → Nat) : Prop where
  two : TwoRows W b 30 4 1 22 1 w va vn ka kn (acells A ka) (scells R C kn)
  rows : ∀ i, i < kn → w.ownsRow (b + 1) 3 1 (.slice (some ⟨R i, 0, none⟩) 8 (C i)) 8 (icells (X i) 8)
section
variable {W : World} {b : Nat} {w w1 w2 : World} {va vn vr : Value} {ka kn : Nat} {A : Nat → Bool} {R C : Nat → Nat} {X : Nat → Nat → Nat} {c : Nat} {x : List Value}
theorem BuildMem.start (hb : Below b W w) (hk : w.heap[b]? = some (.cells #[.slice none 0 0, .slice none 0 0] 30 (0, 0))) : BuildMem W b w (.slice none 0 0) (.slice none 0 0) 0 0 A R C X :=
  ⟨⟨hb, hk, World.ownsRow_nil _ _ _ _, World.ownsRow_nil _ _ _ _, by intro g h; simp [Value.ownBlock] at h⟩, fun i hi => absurd hi (by omega)⟩
theorem BuildMem.below (h : BuildMem W b w va vn ka kn A R C X) (hb : Below w.heap.size w w1) : BuildMem W b w1 va vn ka kn A R C X :=
  ⟨h.two.below hb, fun i hi => ownsRow_below (h.rows i hi) hb⟩
theorem BuildMem.acc (h : BuildMem W b w va vn ka kn A R C X) {g cap : Nat} (hown : w2.ownsRow (b + 1) 4 1 (.slice (some ⟨g, 0, none⟩) (ka + 1) cap) (ka + 1) (acells A ka ++ [.bool (A ka)])) (hg : w.grownBy w2 va.ownBlock) (hf : va.ownBlock = some g ∨ g = w.heap.size) :
    BuildMem W b (w2.setCell ⟨b, 0, none⟩ (.slice (some ⟨g, 0, none⟩) (ka + 1) cap)) (.slice (some ⟨g, 0, none⟩) (ka + 1) cap) vn (ka + 1) kn A R C X := by
  refine ⟨h.two.put0 hown hg hf, fun i hi => ownsRow_setCell_below ((h.rows i hi).kept hg (.inr (fun e => own_apart (h.rows i hi) h.two.own0 (by decide) _ rfl e.symm))) (by simp) _⟩
theorem BuildMem.grown (h : BuildMem W b w va vn ka kn A R C X) (hr : w.ownsRow (b + 1) 3 1 vr c x) (hd : ∀ i, i < kn → vr.ownBlock ≠ some (R i)) (hg : w.grownBy w2 vr.ownBlock) : BuildMem W b w2 va vn ka kn A R C X := by
  have hsz := heap_lt h.two.blk
  refine ⟨⟨h.two.blw.grown hg (by omega) (fun k e => by have := (hr.lt k e).1; omega), ?_, ?_, ?_, h.two.dis⟩, fun i hi => (h.rows i hi).kept hg (.inr (fun e => hd i hi e.symm))⟩
  · rw [hg.block b hsz (fun e => by have := (hr.lt b e.symm).1; omega)]; exact h.two.blk
  · refine h.two.own0.kept hg ?_
    cases hv : va.ownBlock with
    | none => exact .inl rfl
    | some k => exact .inr (fun e => own_apart h.two.own0 hr (by decide) k hv e.symm)
  · refine h.two.own1.kept hg ?_
    cases hv : vn.ownBlock with
    | none => exact .inl rfl
    | some k => exact .inr (fun e => own_apart h.two.own1 hr (by decide) k hv e.symm)
theorem BuildMem.nxt (h : BuildMem W b w va vn ka kn A R C X) {g cap gr cr : Nat} (hr : w.ownsRow (b + 1) 3 1 (.slice (some ⟨gr, 0, none⟩) 8 cr) 8 (icells (X kn) 8))
    (hown : w2.ownsRow (b + 1) 22 1 (.slice (some ⟨g, 0, none⟩) (kn + 1) cap) (kn + 1) (scells R C kn ++ [.slice (some ⟨gr, 0, none⟩) 8 cr])) (hg : w.grownBy w2 vn.ownBlock) (hf : vn.ownBlock = some g ∨ g = w.heap.size) :
    BuildMem W b (w2.setCell ⟨b, 1, none⟩ (.slice (some ⟨g, 0, none⟩) (kn + 1) cap)) va (.slice (some ⟨g, 0, none⟩) (kn + 1) cap) ka (kn + 1) A (fun i => if i = kn then gr else R i) (fun i => if i = kn then cr else C i) X := by
  have es : scells R C kn ++ [.slice (some ⟨gr, 0, none⟩) 8 cr] = scells (fun i => if i = kn then gr else R i) (fun i => if i = kn then cr else C i) (kn + 1) := by
    rw [scells_succ]
    congr 1
    · simp only [scells]; apply List.map_congr_left; intro i hi; have : i < kn := by simpa using hi
      rw [if_neg (by omega), if_neg (by omega)]
    · simp
  refine ⟨?_, fun i hi => ?_⟩
  · have := h.two.put1 hown hg hf
    rw [es] at this; exact this
  · by_cases e : i = kn
    · subst e
      simp only [if_true]
      exact ownsRow_setCell_below (hr.kept hg (.inr (fun e => own_apart hr h.two.own1 (by decide) _ rfl e.symm))) (by simp) _
    · simp only [if_neg e]
      have h1 := h.rows i (by omega)
      exact ownsRow_setCell_below (h1.kept hg (.inr (fun e => own_apart h1 h.two.own1 (by decide) _ rfl e.symm))) (by simp) _
theorem BuildMem.done (h : BuildMem W b w va vn kn kn A R C X) (hk : 0 < kn) {N : Tab} (hn : N.n = kn) (ha : ∀ i, i < kn → N.acc i = A i) (hx : ∀ i c, i < kn → c < 8 → N.nxt i c = X i c) :
    ∃ V : Lay, va = .slice (some ⟨V.ba, V.oa, none⟩) kn V.ca ∧ vn = .slice (some ⟨V.bn, V.on, none⟩) kn V.cn ∧ TabAt w V N ∧ V.From (b + 1) kn := by
  obtain ⟨aa, ca, rfl, haa⟩ := ownsRow_shape h.two.own0
  obtain ⟨an, cn, rfl, han⟩ := ownsRow_shape h.two.own1
  obtain ⟨ga, rfl, h1⟩ := haa hk
  obtain ⟨gn, rfl, h2⟩ := han hk
  refine ⟨⟨ga, 0, ca, gn, 0, cn, R, fun _ => 0, C⟩, rfl, rfl, ⟨fun i hi => ?_, fun i hi => ?_, fun i c hi hc => ?_⟩, ⟨(h.two.own0.lt ga rfl).1, (h.two.own1.lt gn rfl).1, fun i hi => ((h.rows i hi).lt (R i) rfl).1⟩⟩
  · have hi' : i < kn := by omega
    simp only [Nat.zero_add]
    rw [h1 i (by omega), acells_at _ _ _ hi', ha i hi']
  · have hi' : i < kn := by omega
    simp only [Nat.zero_add]
    rw [h2 i (by omega)]; simp [scells, hi']
  · have hi' : i < kn := by omega
    simp only [Nat.zero_add]
    rw [(h.rows i hi').cellAt c (by omega), hx i c hi' hc]; simp [icells, hc]
end
end Go.Proofs.Ytpngikmcjkjdaab
