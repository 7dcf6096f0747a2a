import Derived.Test.YtpngikmcjkjdaaaParted
namespace Go.Proofs.Ytpngikmcjkjdaaa
open Go.RowKit
set_option linter.unusedVariables false

set_option maxRecDepth 20000 in
set_option maxHeartbeats 2000000 in
theorem small_walk (a1 a2 : Option Addr) (l1 l2 c1 c2 : Nat) (z1 z2 : Nat → Int) (w : World) (h1 : CodeAt w a1 l1 z1) (h2 : CodeAt w a2 l2 z2) :
    Calls Try.prog 3 #[.slice a1 l1 c1, .slice a2 l2 c2] w fun e w' => e = .returned (.bool true) ∧ Below w.heap.size w w' := by
  go_enter Try.func3, Try.ntmps3
  -- t
  go_wp2_with fail
  refine (table_ok a1 l1 c1 z1 w h1).mono ?_
  rintro e w1 ⟨Vt, rfl, hT1, hB1⟩
  have okt := codeTab_ok l1 z1
  have szt := codeTab_n l1 z1
  obtain ⟨W1, hW1⟩ : ∃ W, W = w1.alloc (.cells #[.slice (some ⟨Vt.ba, Vt.oa, none⟩) (codeTab l1 z1).n Vt.ca, .slice (some ⟨Vt.bn, Vt.on, none⟩) (codeTab l1 z1).n Vt.cn] 26) := ⟨_, rfl⟩
  have bt_1 : BoxAt W1 w1.heap.size Vt (codeTab l1 z1) := by rw [hW1]; exact BoxAt.new hT1
  have D1 : Below w.heap.size w W1 := by rw [hW1]; exact hB1.alloc hB1.size _
  have BB1 : Below w.heap.size w W1 := D1
  clear hT1 hB1 D1
  go_upto_region 2 with fail
  rw [← hW1]
  clear hW1
  generalize w1.heap.size = p1 at *
  generalize codeTab l1 z1 = Mt at *
  go_wp2_with fail
  refine (text_ok a2 l2 c2 z2 W1 (h2.below BB1)).mono ?_
  rintro e w2 ⟨s, rfl, hs, hsl, hB2⟩
  have bt_2 := bt_1.below hB2
  clear bt_1
  have BB2 : Below w.heap.size w w2 := BB1.trans (hB2.mono BB1.size)
  clear hB2 
  clear BB1
  -- m
  obtain ⟨xt0, xt1, _, _⟩ := cell_two bt_2.blk
  go_wp2_with fail
  refine (least_ok Vt Mt w2 okt bt_2.tab).mono ?_
  rintro e w3 ⟨hB3, hc3⟩
  rcases hc3 with ⟨Mm, Vm, hm, hnm, rfl, hT3, _⟩ | ⟨_, hlt, _⟩
  case inr => exfalso; have h40 : (40 : Int).toNat = 40 := rfl; have := Nat.mul_le_mul szt.2 szt.2; omega
  have okm := hm.ok hnm
  have szm : Mm.n ≤ 6 := Nat.le_trans (least_le hm okt (fun x _ => rfl)) szt.2
  obtain ⟨W3, hW3⟩ : ∃ W, W = w3.alloc (.cells #[.slice (some ⟨Vm.ba, Vm.oa, none⟩) (Mm).n Vm.ca, .slice (some ⟨Vm.bn, Vm.on, none⟩) (Mm).n Vm.cn] 26) := ⟨_, rfl⟩
  have bm_3 : BoxAt W3 w3.heap.size Vm (Mm) := by rw [hW3]; exact BoxAt.new hT3
  have D3 : Below w2.heap.size w2 W3 := by rw [hW3]; exact hB3.alloc hB3.size _
  have bt_3 := bt_2.below D3
  clear bt_2
  have BB3 : Below w.heap.size w W3 := BB2.trans (D3.mono BB2.size)
  clear hT3 hB3 D3
  clear xt0 xt1
  clear BB2
  go_upto_region 4 with fail
  rw [← hW3]
  clear hW3
  generalize w3.heap.size = p3 at *
  have hmt : Mm.n ≤ Mt.n := least_le hm okt (fun x _ => rfl)
  have hnum := hm.num
  obtain ⟨xm0, xm1, _, _⟩ := cell_two bm_3.blk
  go_wp2_with fail
  refine (numbered_ok Vm Mm W3 okm bm_3.tab hnum).mono ?_
  rintro e w4 ⟨rfl, hB4⟩
  have bt_4 := bt_3.below hB4
  clear bt_3
  have bm_4 := bm_3.below hB4
  clear bm_3
  have BB4 : Below w.heap.size w w4 := BB3.trans (hB4.mono BB3.size)
  clear hB4 xm0 xm1
  clear BB3
  clear hnum
  obtain ⟨xt0, xt1, _, _⟩ := cell_two bt_4.blk
  obtain ⟨xm0, xm1, _, _⟩ := cell_two bm_4.blk
  go_upto_region 7 with fail
  clear xt0 xt1 xm0 xm1
  obtain ⟨xt0, xt1, _, _⟩ := cell_two bt_4.blk
  go_wp2_with fail
  refine (run_ok Vt Mt s w4 okt bt_4.tab hs hsl).mono ?_
  rintro e w5 ⟨rfl, hB5⟩
  have bt_5 := bt_4.below hB5
  clear bt_4
  have bm_5 := bm_4.below hB5
  clear bm_4
  have BB5 : Below w.heap.size w w5 := BB4.trans (hB5.mono BB4.size)
  clear hB5 xt0 xt1
  clear BB4
  obtain ⟨xm0, xm1, _, _⟩ := cell_two bm_5.blk
  go_wp2_with fail
  refine (run_ok Vm Mm s w5 okm bm_5.tab hs hsl).mono ?_
  rintro e w6 ⟨rfl, hB6⟩
  have bt_6 := bt_5.below hB6
  clear bt_5
  have bm_6 := bm_5.below hB6
  clear bm_5
  have BB6 : Below w.heap.size w w6 := BB5.trans (hB6.mono BB5.size)
  clear hB6 xm0 xm1
  clear BB5
  rw [hm.lang _ (notes_of hs)]
  generalize Mt.accepts (notesOf s) = am at *
  -- g
  obtain ⟨xm0, xm1, _, _⟩ := cell_two bm_6.blk
  go_wp2_with fail
  refine (least_ok Vm Mm w6 okm bm_6.tab).mono ?_
  rintro e w7 ⟨hB7, hc7⟩
  rcases hc7 with ⟨Mg, Vg, hg, hng, rfl, hT7, _⟩ | ⟨_, hlt, _⟩
  case inr => exfalso; have h40 : (40 : Int).toNat = 40 := rfl; have := Nat.mul_le_mul szm szm; omega
  have okg := hg.ok hng
  obtain ⟨W7, hW7⟩ : ∃ W, W = w7.alloc (.cells #[.slice (some ⟨Vg.ba, Vg.oa, none⟩) (Mg).n Vg.ca, .slice (some ⟨Vg.bn, Vg.on, none⟩) (Mg).n Vg.cn] 26) := ⟨_, rfl⟩
  have bg_7 : BoxAt W7 w7.heap.size Vg (Mg) := by rw [hW7]; exact BoxAt.new hT7
  have D7 : Below w6.heap.size w6 W7 := by rw [hW7]; exact hB7.alloc hB7.size _
  have bt_7 := bt_6.below D7
  clear bt_6
  have bm_7 := bm_6.below D7
  clear bm_6
  have BB7 : Below w.heap.size w W7 := BB6.trans (D7.mono BB6.size)
  clear hT7 hB7 D7
  clear xm0 xm1
  clear BB6
  go_upto_region 10 with fail
  rw [← hW7]
  clear hW7
  generalize w7.heap.size = p7 at *
  obtain ⟨xm0, xm1, _, _⟩ := cell_two bm_7.blk
  obtain ⟨xg0, xg1, _, _⟩ := cell_two bg_7.blk
  go_wp2_with fail
  refine (same_ok Vm Vg Mm Mg W7 okm okg bm_7.tab bg_7.tab).mono ?_
  rintro e w8 ⟨sb, rfl, hsb, hB8⟩
  have bt_8 := bt_7.below hB8
  clear bt_7
  have bm_8 := bm_7.below hB8
  clear bm_7
  have bg_8 := bg_7.below hB8
  clear bg_7
  have BB8 : Below w.heap.size w w8 := BB7.trans (hB8.mono BB7.size)
  clear hB8 xm0 xm1 xg0 xg1
  clear BB7
  have eb : sb = true := by
    rw [hsb]
    exact least_unique hm ⟨hg.num, hg.apart, fun x hx => by rw [hg.lang x hx, hm.lang x hx]⟩
  subst eb
  have hbn : (am != am) = false := by simp
  have HAP : Hid (∀ i j, i < Mm.n → j < Mm.n → i ≠ j → Apart Mm i j) := hm.apart
  clear hsb hg hm
  obtain ⟨y0, y1, _, _⟩ := cell_two bm_8.blk
  go_wp2_with fail
  clear y0 y1
  have bm0 := bm_8
  generalize hpm : p3 = pm at *
  clear hpm
  go_loopw [17] (fun i' wr => ∃ i : Nat, i ≤ Mm.n ∧ i' = .int .i64 i ∧ Below w.heap.size w wr ∧ BoxAt wr pm Vm Mm)
    (fun i' _ => Mm.n - (intOf i').toNat)
  case atStart => exact ⟨0, by omega, rfl, BB8, bm0⟩
  case round =>
    obtain ⟨i, hi, rfl, hbb, hbx⟩ := hrel
    obtain ⟨y0, y1, _, _⟩ := cell_two hbx.blk
    by_cases hlt : i < Mm.n
    · go_wp2_with fail
      go_loopw [18] (fun k' wr => ∃ k : Nat, k ≤ i ∧ k' = .int .i64 k ∧ Below w.heap.size w wr ∧ BoxAt wr pm Vm Mm)
        (fun k' _ => i - (intOf k').toNat)
      case atStart => exact ⟨0, by omega, rfl, hbb, hbx⟩
      case round =>
        clear hbb hbx y0 y1
        obtain ⟨k, hk, rfl, hbb, hbx⟩ := hrel
        by_cases hki : k < i
        · have hd : ∃ x, Notes x ∧ (swTab Mm i).accepts x ≠ (swTab Mm k).accepts x := by
            obtain ⟨x, hx, hne⟩ := HAP.out i k hlt (by omega) (by omega)
            exact ⟨x, hx, by rw [swTab_accepts, swTab_accepts]; exact hne⟩
          have HDI : Hid (∃ x, Notes x ∧ (swTab Mm i).accepts x ≠ (swTab Mm k).accepts x) := hd
          clear hd
          have hbd : BoxAt wr.drew pm Vm Mm := ⟨hbx.blk, ⟨hbx.tab.acc, hbx.tab.row, hbx.tab.cel⟩⟩
          have hbl : Below w.heap.size w wr.drew := hbb.drew
          have hmul : Mm.n * Mm.n ≤ 40 := by have := Nat.mul_le_mul szm szm; omega
          obtain ⟨y0, y1, _, _⟩ := cell_two hbx.blk
          clear hbx hbb
          go_upto_region 19 with fail
          go_cut [19] (fun r wc => r = .bool true ∧ Below w.heap.size w wc ∧ BoxAt wc pm Vm Mm)
          case first =>
            go_region_with (first
              | (go_at_call_of 14 (Value.int IntKind.i64 (i : Int)); refine (from_ok Vm Mm i _ okm (BoxAt.tab (b := pm) (by assumption)) hlt).mono ?_; rintro e wi ⟨Ui, rfl, hTi, _, hBi⟩; have hbi : BoxAt wi pm Vm Mm := BoxAt.below (by assumption) hBi; have hli : Below w.heap.size w wi := Below.trans (by assumption) (hBi.mono (Below.size (by assumption))); obtain ⟨xi0, xi1, _, _⟩ := cell_two hbi.blk; try (have hTk' := TabAt.below hTk hBi))
              | (go_at_call_of 14 (Value.int IntKind.i64 (k : Int)); refine (from_ok Vm Mm k _ okm (BoxAt.tab (b := pm) (by assumption)) (by omega)).mono ?_; rintro e wk ⟨Uk, rfl, hTk, _, hBk⟩; have hbk : BoxAt wk pm Vm Mm := BoxAt.below (by assumption) hBk; have hlk : Below w.heap.size w wk := Below.trans (by assumption) (hBk.mono (Below.size (by assumption))); obtain ⟨xk0, xk1, _, _⟩ := cell_two hbk.blk; try (have hTi' := TabAt.below hTi hBk))
              | (go_at_call 13; refine (parted_ok Ui Uk (swTab Mm i) (swTab Mm k) _ (swTab_ok okm hlt) (swTab_ok okm (by omega)) (by first | exact hTi' | exact hTi) (by first | exact hTk' | exact hTk) hmul HDI.out).mono ?_; rintro e wp ⟨rfl, hBp⟩; have hbp : BoxAt wp pm Vm Mm := BoxAt.below (by assumption) hBp; have hlp : Below w.heap.size w wp := Below.trans (by assumption) (hBp.mono (Below.size (by assumption)))))
            all_goals go_wp2_with fail
            all_goals go_meet
            all_goals exact ⟨rfl, hlp, hbp⟩
          case rest =>
            obtain ⟨rfl, hl2, hb2⟩ := hcut
            clear hbd hbl y0 y1
            go_wp2_with fail
            go_roundw
            case rel => exact ⟨k + 1, by omega, by go_num, hl2, hb2⟩
            case measure => simp [intOf]; omega
        · go_wp2_with fail
          go_roundw
          case rel => exact ⟨i + 1, by omega, by go_num, hbb, hbx⟩
          case measure => simp [intOf]; omega
    · go_wp2_with fail
      go_ret
      exact ⟨rfl, hbb⟩
end Go.Proofs.Ytpngikmcjkjdaaa
