import Derived.OpenShut
import Derived.Test.YtpngikmcjkjdaabG13
import Derived.Test.YtpngikmcjkjdaabG5
import Derived.Test.YtpngikmcjkjdaabG6
set_option linter.unusedVariables false
set_option linter.unusedSimpArgs false
namespace Go.Proofs.Ytpngikmcjkjdaab
open Go.RowKit
set_option linter.unusedVariables false
set_option linter.unusedSimpArgs false
theorem notes_range (s : ByteArray) : notesOf s = (List.range s.size).map (noteAt s) := by
  apply List.ext_getElem?
  intro i
  unfold notesOf noteAt
  rw [List.getElem?_map, List.getElem?_map]
  by_cases h : i < s.size
  · have h' : i < s.data.toList.length := by rw [Array.length_toList]; exact h
    rw [List.getElem?_range h, List.getElem?_eq_getElem h']
    show some (s.data.toList[i].toNat - 97) = some ((s.data.toList.getD i 0).toNat - 97)
    rw [List.getD_eq_getElem?_getD, List.getElem?_eq_getElem h']
    rfl
  · have h' : s.data.toList.length ≤ i := by rw [Array.length_toList]; exact Nat.le_of_not_lt h
    rw [List.getElem?_eq_none h', List.getElem?_eq_none (by rw [List.length_range]; omega)]
    rfl
def earOf (s : ByteArray) (k : Nat) : Ear := ⟨noteAt s, s.size, k⟩
def offBy (s : ByteArray) (k : Nat) (x : ByteArray) : Nat := hearR (noteAt s) k (notesOf x) s.size
theorem off_self (s : ByteArray) (k : Nat) : offBy s k s = 0 := (hearR_zero _ _).2 (notes_range s)
theorem off_lang {s x : ByteArray} {k : Nat} (hk : k ≤ 2) (h : offBy s k x ≤ k) : (earOf s k).lang (notesOf x) = true := (Ear.lang_hear (E := earOf s k) hk _).2 h
theorem near_yes (s : ByteArray) (k : Nat) (w : World) (hs : s.size ≤ 6) (ht : IsText s) (hk : k ≤ 1) : Calls Try.prog 21 #[.string s, .int .i64 (k : Int), .int .i64 40] w fun e w' => Below w.heap.size w w' ∧ ∃ (R : Tab) (V : Lay), IsLeast R (earOf s k).lang ∧ R.n ≤ 40 ∧ e = .returned (.tuple #[.agg #[.slice (some ⟨V.ba, V.oa, none⟩) R.n V.ca, .slice (some ⟨V.bn, V.on, none⟩) R.n V.cn], .int .i64 0]) ∧ TabAt w' V R := by
  refine (near_ok s k 40 w (by omega) (by omega) ht (by omega) (by omega)).mono ?_
  rintro e w' ⟨n, hB, ⟨R, V, hR, hd, he, hT, _⟩ | ⟨_, _, hno⟩⟩
  · exact ⟨hB, R, V, hR, hd, he, hT⟩
  · obtain ⟨M, hM, hL⟩ := Ear.small_tab (E := earOf s k) hk hs
    obtain ⟨R, h1, h2⟩ := least_of hM hL
    have := hno R h1
    have := hM.hi
    omega
theorem comp_tune {s : ByteArray} (ht : IsText s) (hs : s.size ≤ 6) : CompC s (langB (tuneP (notesOf s)).lang) := fun w1 => by
  have hz := tune_size (notesOf s)
  rw [notesOf_len] at hz
  have hl : (trieP [notesOf s]).length < 40 := by
    unfold trieP
    rw [List.flatMap_cons, List.flatMap_nil, List.append_nil, List.length_cons, inits_len, notesOf_len]
    omega
  refine (compile_text s 40 w1 ⟨_, ?_, by omega, rfl⟩ (by omega) (by omega) (by omega)).mono (fun e w' ⟨n, hn⟩ => hn.yes (trieT_ok [notesOf s] hl) (fun x _ => ?_))
  · rw [txt_notes ht]
    exact (tune_seq _ (notes_of ht)).pat.zero
  · rw [Bool.eq_iff_iff, trieT_accepts, langB_iff, tune_lang]
    simp
theorem ear_own {s : ByteArray} (x : List Nat) : (earOf s 0).lang x = langB (tuneP (notesOf s)).lang x := by
  rw [Bool.eq_iff_iff, Ear.lang_zero (E := earOf s 0) rfl, langB_iff, tune_lang, notes_range s]
  rfl
set_option maxRecDepth 20000 in
set_option maxHeartbeats 4000000 in
theorem heard_walk (a1 a2 a4 : Option Addr) (l1 l2 l4 c1 c2 c4 : Nat) (z1 z2 z4 : Nat → Int) (dist : Int) (w : World) (h1 : CodeAt w a1 l1 z1) (h2 : CodeAt w a2 l2 z2) (h4 : CodeAt w a4 l4 z4) (hd0 : -9223372036854775808 ≤ dist) (hd1 : dist ≤ 9223372036854775807) :
    Calls Try.prog 6 #[.slice a1 l1 c1, .slice a2 l2 c2, .int .i64 dist, .slice a4 l4 c4] w fun e w' => e = .returned (.bool true) ∧ Below w.heap.size w w' := by
  have HT := text_any 6 (by omega) a1 l1 c1 z1 w h1
  rw [show ((6 : Nat) : Int) = 6 from rfl] at HT
  obtain ⟨kd, HKD⟩ : ∃ x, Hid (pickN dist 3 = x) := ⟨_, rfl⟩
  have hkd : kd < 3 := by rw [← HKD.out]; exact pickN_lt _ _ (by omega)
  have HP : Hid (∀ wj, Calls Try.prog 17 #[.int .i64 dist, .int .i64 3] wj fun e w' => e = .returned (.int .i64 (kd : Int)) ∧ w' = wj) := fun wj => by
    have := pick_any dist 3 wj (by omega) (by omega) hd0 hd1
    rw [show (3 : Int).toNat = 3 from rfl, HKD.out] at this
    exact this
  have H2 : Hid (CodeAt w a2 l2 z2) := h2
  have H4 : Hid (CodeAt w a4 l4 z4) := h4
  clear h1 h2 h4 HKD
  go_enter Try.func6, Try.ntmps6
  go_wp2_with fail
  refine HT.mono ?_
  clear HT
  rintro e w1 ⟨s, rfl, hs, hs6, hB1⟩
  have HX := HP.out w1
  clear HP
  go_wp2_with fail
  refine HX.mono ?_
  clear HX
  rintro e w' ⟨rfl, hw'⟩
  obtain rfl : w1 = w' := hw'.symm
  have HS : Hid (IsText s) := hs
  have HX := near_ok s kd 40 w1 (by omega) (by omega) hs (by omega) (by omega)
  rw [show ((40 : Nat) : Int) = 40 from rfl] at HX
  have HB1 : Hid (Below w.heap.size w w1) := hB1
  have hs1 := hB1.size
  clear hs hB1
  go_wp2_with fail
  refine HX.mono ?_
  clear HX
  rintro e w2 ⟨n, hB2, ⟨Rt, Vt, hRt, hdt, rfl, hT2, _⟩ | ⟨rfl, _, hno⟩⟩
  · have hs2 := hB2.size
    obtain ⟨W2, hW2⟩ : ∃ W, W = w2.alloc (.cells #[.slice (some ⟨Vt.ba, Vt.oa, none⟩) Rt.n Vt.ca, .slice (some ⟨Vt.bn, Vt.on, none⟩) Rt.n Vt.cn] 30) := ⟨_, rfl⟩
    have bt : BoxK W2 w2.heap.size Vt Rt := by rw [hW2]; exact BoxK.new hT2
    have D2 : Below w1.heap.size w1 W2 := by rw [hW2]; exact hB2.alloc hB2.size _
    have BB2 : Below w.heap.size w W2 := HB1.out.trans (D2.mono hs1)
    have okt := hRt.isOk hdt
    have HRT : Hid (IsLeast Rt (earOf s kd).lang) := hRt
    clear hT2 hB2 D2 hRt HB1
    go_upto_region 4 with fail
    rw [← hW2]
    clear hW2
    generalize w2.heap.size = pt at *
    have HBT : Hid (BoxK W2 pt Vt Rt) := bt
    have HBB : Hid (Below w.heap.size w W2) := BB2
    have hs3 := BB2.size
    clear bt BB2
    go_wp2_with fail
    go_loopw [13, 14] (fun xv i' wr => ∃ (i : Nat) (x : ByteArray), i ≤ kd ∧ i' = .int .i64 (i : Int) ∧ xv = .string x ∧ Hid (IsText x ∧ offBy s kd x ≤ i) ∧ x.size ≤ 6 + i ∧ Below W2.heap.size W2 wr) (fun _ i' _ => kd - (intOf i').toNat)
    case atStart => exact ⟨0, s, by omega, rfl, rfl, ⟨HS.out, by rw [off_self]; exact Nat.le_refl _⟩, by omega, Below.refl _ _⟩
    case round =>
      obtain ⟨i, x, hi, rfl, rfl, HXI, hxs, hb⟩ := hrel
      have hbs := hb.size
      have hbw : Below w.heap.size w wr := HBB.out.trans (hb.mono hs3)
      by_cases hlt : i < kd
      · have hc := H2.out.below hbw
        have r1 := atN_rng hc (3 * i)
        have r2 := atN_rng hc (3 * i + 1)
        have r3 := atN_rng hc (3 * i + 2)
        have A1 := at_ok a2 l2 c2 z2 (3 * (i : Int)) wr hc (by omega)
        rw [show (3 * (i : Int)).toNat = 3 * i by omega] at A1
        have A2 := at_ok a2 l2 c2 z2 (3 * (i : Int) + 1) wr hc (by omega)
        rw [show (3 * (i : Int) + 1).toNat = 3 * i + 1 by omega] at A2
        have A3 := at_ok a2 l2 c2 z2 (3 * (i : Int) + 2) wr hc (by omega)
        rw [show (3 * (i : Int) + 2).toNat = 3 * i + 2 by omega] at A3
        generalize atN l2 z2 (3 * i) = y1 at *
        generalize atN l2 z2 (3 * i + 1) = y2 at *
        generalize atN l2 z2 (3 * i + 2) = y3 at *
        have HC := changed_ok x y1 y2 y3 wr HXI.out.1 (by omega) r1 r2 r3
        have HB : Hid (Below W2.heap.size W2 wr) := hb
        clear hc r1 r2 r3 hb hbw
        go_wp2_with fail
        refine A1.mono ?_
        clear A1
        rintro e w' ⟨rfl, hw'⟩
        obtain rfl : wr = w' := hw'.symm
        go_wp2_with fail
        refine A2.mono ?_
        clear A2
        rintro e w' ⟨rfl, hw'⟩
        obtain rfl : wr = w' := hw'.symm
        go_wp2_with fail
        refine A3.mono ?_
        clear A3
        rintro e w' ⟨rfl, hw'⟩
        obtain rfl : wr = w' := hw'.symm
        go_wp2_with fail
        refine HC.mono ?_
        clear HC
        rintro e w4 ⟨x2, rfl, hx2, hxs2, hnr, hb4⟩
        have HX2 : Hid (IsText x2 ∧ offBy s kd x2 ≤ i + 1) := ⟨hx2, by
          have := hnr (noteAt s) kd s.size
          have h5 := HXI.out.2
          unfold offBy at h5 ⊢
          omega⟩
        have HB4 : Hid (Below W2.heap.size W2 w4) := HB.out.trans (hb4.mono hbs)
        clear hx2 hnr hb4 HB
        go_wp2_with fail
        go_roundw
        case rel => exact ⟨i + 1, x2, by omega, by go_num, rfl, HX2.out, by omega, HB4.out⟩
        case measure => simp [intOf]; omega
      · have ei : i = kd := by omega
        subst ei
        have hq : ¬ (i : Int) < (i : Int) := by omega
        have HT := text_any 1000 (by omega) a4 l4 c4 z4 wr (H4.out.below hbw)
        rw [show ((1000 : Nat) : Int) = 1000 from rfl] at HT
        have HBW : Hid (Below w.heap.size w wr) := hbw
        have hbws := hbw.size
        have HBT2 : Hid (BoxK wr pt Vt Rt) := HBT.out.below hb
        clear hb hbw HBT HBB H2 H4
        go_wp2_with fail
        refine HT.mono ?_
        clear HT
        rintro e w5 ⟨y, rfl, hy, hys, hb5⟩
        have HB5 : Hid (Below w.heap.size w w5) := HBW.out.trans (hb5.mono hbws)
        have HBT5 : Hid (BoxK w5 pt Vt Rt) := HBT2.out.below hb5
        have HR1 := run_ok Vt Rt x w5 okt HBT5.out.tab HXI.out.1 (by omega)
        rw [HRT.out.lang _ (notes_of HXI.out.1), off_lang (by omega) HXI.out.2] at HR1
        obtain ⟨xt0, xt1, _, _⟩ := cell_two HBT5.out.blk
        have HY : Hid (IsText y) := hy
        clear hb5 HBW HBT2 hy HXI
        go_wp2_with fail
        refine HR1.mono ?_
        clear HR1
        rintro e w6 ⟨rfl, hb6⟩
        have HB6 : Hid (Below w.heap.size w w6) := HB5.out.trans (hb6.mono HB5.out.size)
        have HBT6 : Hid (BoxK w6 pt Vt Rt) := HBT5.out.below hb6
        have HR2 := run_ok Vt Rt y w6 okt HBT6.out.tab HY.out hys
        rw [HRT.out.lang _ (notes_of HY.out)] at HR2
        obtain ⟨yt0, yt1, _, _⟩ := cell_two HBT6.out.blk
        have hlen : (earOf s i).lang (notesOf y) = true → s.size ≤ y.size + i ∧ y.size ≤ s.size + i := fun hl => by
          have := Ear.lang_len (E := earOf s i) (show i ≤ 2 by omega) hl
          rw [notes_len] at this
          exact this
        generalize (earOf s i).lang (notesOf y) = bb at HR2 hlen
        clear hb6 HB5 HBT5 xt0 xt1 HY
        go_wp2_with fail
        refine HR2.mono ?_
        clear HR2
        rintro e w7 ⟨rfl, hb7⟩
        have HB7 : Hid (Below w.heap.size w w7) := HB6.out.trans (hb7.mono HB6.out.size)
        have HBT7 : Hid (BoxK w7 pt Vt Rt) := HBT6.out.below hb7
        have HX := near_yes s 0 w7 hs6 HS.out (by omega)
        rw [show ((0 : Nat) : Int) = 0 from rfl] at HX
        have HCT := comp_tune HS.out hs6
        have HOF : Hid (bb = true → ¬ ((s.size : Int) + (i : Int) < (y.size : Int)) ∧ ¬ ((y.size : Int) < (s.size : Int) - (i : Int))) := fun hl => by have := hlen hl; omega
        clear hb7 HB6 HBT6 yt0 yt1 hlen HS
        have HTW : Hid (∀ x, Notes x → (earOf s 0).lang x = langB (tuneP (notesOf s)).lang x) := fun x _ => ear_own x
        have HCT2 : Hid (CompC s (langB (tuneP (notesOf s)).lang)) := HCT
        generalize langB (tuneP (notesOf s)).lang = LO at HTW HCT2
        generalize (earOf s 0).lang = LZ at HX HTW
        clear HCT
        rcases (show (bb = true ∧ ¬ ((s.size : Int) + (i : Int) < (y.size : Int)) ∧ ¬ ((y.size : Int) < (s.size : Int) - (i : Int))) ∨ (bb = false ∧ (s.size : Int) + (i : Int) < (y.size : Int)) ∨ (bb = false ∧ ¬ ((s.size : Int) + (i : Int) < (y.size : Int)) ∧ (y.size : Int) < (s.size : Int) - (i : Int)) ∨ (bb = false ∧ ¬ ((s.size : Int) + (i : Int) < (y.size : Int)) ∧ ¬ ((y.size : Int) < (s.size : Int) - (i : Int))) by
          cases bb with
          | true => exact .inl ⟨rfl, HOF.out rfl⟩
          | false =>
            right
            by_cases o1 : (s.size : Int) + (i : Int) < (y.size : Int)
            · exact .inl ⟨rfl, o1⟩
            · right
              by_cases o2 : (y.size : Int) < (s.size : Int) - (i : Int)
              · exact .inl ⟨rfl, o1, o2⟩
              · exact .inr ⟨rfl, o1, o2⟩) with ⟨rfl, o1, o2⟩ | ⟨rfl, o1⟩ | ⟨rfl, o1, o2⟩ | ⟨rfl, o1, o2⟩
        all_goals
          clear HOF
          go_wp2_with fail
          refine HX.mono ?_
          clear HX
          rintro e w8 ⟨hB8, Rz, Vz, hRz, hdz, rfl, hT8⟩
          obtain ⟨W8, hW8⟩ : ∃ W, W = w8.alloc (.cells #[.slice (some ⟨Vz.ba, Vz.oa, none⟩) Rz.n Vz.ca, .slice (some ⟨Vz.bn, Vz.on, none⟩) Rz.n Vz.cn] 30) := ⟨_, rfl⟩
          have bz : BoxK W8 w8.heap.size Vz Rz := by rw [hW8]; exact BoxK.new hT8
          have D8 : Below w7.heap.size w7 W8 := by rw [hW8]; exact hB8.alloc hB8.size _
          have HBT8 : Hid (BoxK W8 pt Vt Rt) := HBT7.out.below D8
          have HB8 : Hid (Below w.heap.size w W8) := HB7.out.trans (D8.mono HB7.out.size)
          have okz := hRz.isOk hdz
          have HRZ : Hid (IsLeast Rz LO) := hRz.to HTW.out
          clear hT8 hB8 D8 hRz HBT7 HB7
          go_upto_region 16 with fail
          rw [← hW8]
          clear hW8
          generalize w8.heap.size = pz at *
          have HX := HCT2.out W8
          go_wp2_with fail
          refine HX.mono ?_
          clear HX
          rintro e w9 ⟨hB9, Ro, Vo, hRo, hdo, rfl, hT9, _⟩
          obtain ⟨W9, hW9⟩ : ∃ W, W = w9.alloc (.cells #[.slice (some ⟨Vo.ba, Vo.oa, none⟩) Ro.n Vo.ca, .slice (some ⟨Vo.bn, Vo.on, none⟩) Ro.n Vo.cn] 30) := ⟨_, rfl⟩
          have bo : BoxK W9 w9.heap.size Vo Ro := by rw [hW9]; exact BoxK.new hT9
          have D9 : Below W8.heap.size W8 W9 := by rw [hW9]; exact hB9.alloc hB9.size _
          have HBT9 : Hid (BoxK W9 pt Vt Rt) := HBT8.out.below D9
          have bz9 := bz.below D9
          have HB9 : Hid (Below w.heap.size w W9) := HB8.out.trans (D9.mono HB8.out.size)
          have oko := hRo.isOk hdo
          have HST : Hid (SameTab Rz Ro) := least_unique HRZ.out hRo
          clear hT9 hB9 D9 hRo HBT8 HB8 bz HRZ
          go_upto_region 17 with fail
          rw [← hW9]
          clear hW9
          generalize w9.heap.size = po at *
          obtain ⟨xz0, xz1, _, _⟩ := cell_two bz9.blk
          obtain ⟨xo0, xo1, _, _⟩ := cell_two bo.blk
          have HX := same_ok Vz Vo Rz Ro W9 okz oko bz9.tab bo.tab
          clear bz9 bo
          go_wp2_with fail
          refine HX.mono ?_
          clear HX
          rintro e w10 ⟨sb, rfl, hsb, hb10⟩
          obtain rfl : sb = true := hsb.2 HST.out
          have HBT10 : Hid (BoxK w10 pt Vt Rt) := HBT9.out.below hb10
          have HB10 : Hid (Below w.heap.size w w10) := HB9.out.trans (hb10.mono HB9.out.size)
          have HX := numbered_ok Vt Rt w10 okt HBT10.out.tab HRT.out.num
          obtain ⟨xt0, xt1, _, _⟩ := cell_two HBT10.out.blk
          clear hb10 hsb HBT9 HB9 HST xz0 xz1 xo0 xo1
          go_wp2_with fail
          refine HX.mono ?_
          clear HX
          rintro e w11 ⟨rfl, hb11⟩
          have HF : Hid (Below w.heap.size w w11) := HB10.out.trans (hb11.mono HB10.out.size)
          clear hb11 HB10 HBT10 xt0 xt1
          go_wp2_with fail
          go_ret
          refine ⟨?_, HF.out⟩
          first
            | rfl
            | (show Ending.returned (Value.bool (!decide ((s.size : Int) + (i : Int) < (y.size : Int)) && !decide ((y.size : Int) < (s.size : Int) - (i : Int)))) = _
               rw [decide_eq_false (by omega), decide_eq_false (by omega)]
               rfl)
  · by_cases h2 : kd = 2
    · subst h2
      have HF : Hid (Below w.heap.size w w2) := HB1.out.trans (hB2.mono hs1)
      clear hno hB2 HB1
      go_wp2_with fail
      go_ret
      exact ⟨rfl, HF.out.alloc HF.out.size _⟩
    · exfalso
      obtain ⟨M, hM, hL⟩ := Ear.small_tab (E := earOf s kd) (show kd ≤ 1 by omega) hs6
      obtain ⟨R, e1, e2⟩ := least_of hM hL
      have := hno R e1
      have := hM.hi
      omega
end Go.Proofs.Ytpngikmcjkjdaab

namespace Go.Proofs.Ytpngikmcjkjdaab
open Go.RowKit
set_option linter.unusedVariables false
def IsRow (k : IntKind) (w : World) (a : Option Addr) (len cap : Nat) (zs : List Int) : Prop :=
  (a = none ∧ len = 0 ∧ cap = 0 ∧ zs = []) ∨
  ∃ x, a = some x ∧ len ≤ cap ∧ cap ≤ maxLen ∧ zs.length = cap ∧ (∀ i, i < zs.length → w.cell? (x.add i) = some (.int k (zs.getD i 0))) ∧ ∀ n ∈ zs, (Lit.int k n).wf = true
theorem wf_i64 {n : Int} (h : (Lit.int .i64 n).wf = true) : -9223372036854775808 ≤ n ∧ n ≤ 9223372036854775807 := bounds_i64 h
theorem codeAt_of_row {w : World} {a : Option Addr} {len cap : Nat} {zs : List Int} (h : IsRow .i64 w a len cap zs) : CodeAt w a len (fun t => zs.getD t 0) := by
  rcases h with ⟨rfl, rfl, rfl, rfl⟩ | ⟨x, rfl, hl, hm, hz, hc, hw⟩
  · exact ⟨by omega, fun t ht => absurd ht (by omega), fun t ht => absurd ht (by omega)⟩
  · unfold maxLen at hm
    refine ⟨by omega, fun t ht => ?_, fun t ht => ?_⟩
    · obtain ⟨b, off, rfl, hcc⟩ := Go.ints_at hc (by omega)
      exact ⟨b, off, rfl, hcc t (by omega)⟩
    · have : zs.getD t 0 ∈ zs := by
        rw [List.getD_eq_getElem?_getD, List.getElem?_eq_getElem (show t < zs.length by omega)]; exact List.getElem_mem _
      exact wf_i64 (hw _ this)
end Go.Proofs.Ytpngikmcjkjdaab
