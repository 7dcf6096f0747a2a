import Derived.Test.YtpngikmcjkjdaaaSided
namespace Go.Proofs.Ytpngikmcjkjdaaa
open Go.RowKit
set_option linter.unusedVariables false

/-- The contrary. -/
def notTab (M : Tab) : Tab := ⟨M.n, fun i => !M.acc i, M.nxt⟩
theorem notTab_ok {M : Tab} (h : M.Ok) : (notTab M).Ok := ⟨h.lo, h.hi, h.nx⟩
/-- The table of no text. -/
def noTab : Tab := ⟨1, fun _ => false, fun _ _ => 0⟩
theorem noTab_least {L : List Nat → Bool} (hL : ∀ x, Notes x → L x = false) : IsLeast noTab L where
  num := by
    have hc : ∀ p, come noTab.nxt p = 1 := by
      intro p
      induction p with
      | zero => rfl
      | succ p ih => simp only [come, ih]; rfl
    refine ⟨by decide, fun i c _ _ => by show 0 < 1; decide, fun p _ => by show 0 ≤ _; omega, fun i hi => ?_, ?_⟩
    · rw [hc]; exact hi
    · exact hc _
  apart i j hi hj hne := by
    have h1 : i < 1 := hi
    have h2 : j < 1 := hj
    omega
  lang x hx := by rw [hL x hx]; rfl

set_option maxRecDepth 20000 in
set_option maxHeartbeats 2000000 in
theorem doubled_walk (a1 a2 : Option Addr) (l1 l2 c1 c2 : Nat) (z1 z2 : Nat → Int) (w : World) (h1 : CodeAt w a1 l1 z1) (h2 : CodeAt w a2 l2 z2) :
    Calls Try.prog 4 #[.slice a1 l1 c1, .slice a2 l2 c2] w fun e w' => e = .returned (.bool true) ∧ Below w.heap.size w w' := by
  go_enter Try.func4, Try.ntmps4
  -- t
  go_wp2_with fail
  refine (table_ok a1 l1 c1 z1 w h1).mono ?_
  rintro e w1 ⟨Vt, rfl, hT1, hB1⟩
  have okt := codeTab_ok l1 z1
  have szt := codeTab_n l1 z1
  obtain ⟨W1, hW1⟩ : ∃ W, W = w1.alloc (.cells #[.slice (some ⟨Vt.ba, Vt.oa, none⟩) (codeTab l1 z1).n Vt.ca, .slice (some ⟨Vt.bn, Vt.on, none⟩) (codeTab l1 z1).n Vt.cn] 26) := ⟨_, rfl⟩
  have bt_1 : BoxAt W1 w1.heap.size Vt (codeTab l1 z1) := by rw [hW1]; exact BoxAt.new hT1
  have D1 : Below w.heap.size w W1 := by rw [hW1]; exact hB1.alloc hB1.size _
  have BB1 : Below w.heap.size w W1 := D1
  clear hT1 hB1 D1
  go_upto_region 2 with fail
  rw [← hW1]
  clear hW1
  generalize w1.heap.size = p1 at *
  generalize codeTab l1 z1 = Mt at *
  -- u
  go_wp2_with fail
  refine (table_ok a2 l2 c2 z2 W1 (h2.below BB1)).mono ?_
  rintro e w2 ⟨Vu, rfl, hT2, hB2⟩
  have oku := codeTab_ok l2 z2
  have szu := codeTab_n l2 z2
  obtain ⟨W2, hW2⟩ : ∃ W, W = w2.alloc (.cells #[.slice (some ⟨Vu.ba, Vu.oa, none⟩) (codeTab l2 z2).n Vu.ca, .slice (some ⟨Vu.bn, Vu.on, none⟩) (codeTab l2 z2).n Vu.cn] 26) := ⟨_, rfl⟩
  have bu_2 : BoxAt W2 w2.heap.size Vu (codeTab l2 z2) := by rw [hW2]; exact BoxAt.new hT2
  have D2 : Below W1.heap.size W1 W2 := by rw [hW2]; exact hB2.alloc hB2.size _
  have bt_2 := bt_1.below D2
  clear bt_1
  have BB2 : Below w.heap.size w W2 := BB1.trans (D2.mono BB1.size)
  clear hT2 hB2 D2
  clear BB1
  go_upto_region 3 with fail
  rw [← hW2]
  clear hW2
  generalize w2.heap.size = p2 at *
  generalize codeTab l2 z2 = Mu at *
  -- m
  obtain ⟨xt0, xt1, _, _⟩ := cell_two bt_2.blk
  go_wp2_with fail
  refine (least_ok Vt Mt W2 okt bt_2.tab).mono ?_
  rintro e w3 ⟨hB3, hc3⟩
  rcases hc3 with ⟨Mm, Vm, hm, hnm, rfl, hT3, _⟩ | ⟨_, hlt, _⟩
  case inr => exfalso; have h40 : (40 : Int).toNat = 40 := rfl; have := Nat.mul_le_mul szt.2 szt.2; omega
  have okm := hm.ok hnm
  have szm : Mm.n ≤ 6 := Nat.le_trans (least_le hm okt (fun x _ => rfl)) szt.2
  obtain ⟨W3, hW3⟩ : ∃ W, W = w3.alloc (.cells #[.slice (some ⟨Vm.ba, Vm.oa, none⟩) (Mm).n Vm.ca, .slice (some ⟨Vm.bn, Vm.on, none⟩) (Mm).n Vm.cn] 26) := ⟨_, rfl⟩
  have bm_3 : BoxAt W3 w3.heap.size Vm (Mm) := by rw [hW3]; exact BoxAt.new hT3
  have D3 : Below W2.heap.size W2 W3 := by rw [hW3]; exact hB3.alloc hB3.size _
  have bt_3 := bt_2.below D3
  clear bt_2
  have bu_3 := bu_2.below D3
  clear bu_2
  have BB3 : Below w.heap.size w W3 := BB2.trans (D3.mono BB2.size)
  clear hT3 hB3 D3
  clear xt0 xt1
  clear BB2
  go_upto_region 4 with fail
  rw [← hW3]
  clear hW3
  generalize w3.heap.size = p3 at *
  -- n
  obtain ⟨xt0, xt1, _, _⟩ := cell_two bt_3.blk
  go_wp2_with fail
  refine (not_ok Vt Mt W3 okt bt_3.tab).mono ?_
  rintro e w4 ⟨hB4, hc4⟩
  rcases hc4 with ⟨Mn, Vn, hn, hnn, rfl, hT4, _⟩ | ⟨_, hlt, _⟩
  case inr => exfalso; have h40 : (40 : Int).toNat = 40 := rfl; omega
  have okn := hn.ok hnn
  have szn : Mn.n ≤ 6 := Nat.le_trans (least_le hn (notTab_ok okt) (fun x _ => rfl)) szt.2
  obtain ⟨W4, hW4⟩ : ∃ W, W = w4.alloc (.cells #[.slice (some ⟨Vn.ba, Vn.oa, none⟩) (Mn).n Vn.ca, .slice (some ⟨Vn.bn, Vn.on, none⟩) (Mn).n Vn.cn] 26) := ⟨_, rfl⟩
  have bn_4 : BoxAt W4 w4.heap.size Vn (Mn) := by rw [hW4]; exact BoxAt.new hT4
  have D4 : Below W3.heap.size W3 W4 := by rw [hW4]; exact hB4.alloc hB4.size _
  have bt_4 := bt_3.below D4
  clear bt_3
  have bu_4 := bu_3.below D4
  clear bu_3
  have bm_4 := bm_3.below D4
  clear bm_3
  have BB4 : Below w.heap.size w W4 := BB3.trans (D4.mono BB3.size)
  clear hT4 hB4 D4
  clear xt0 xt1
  clear BB3
  go_upto_region 5 with fail
  rw [← hW4]
  clear hW4
  generalize w4.heap.size = p4 at *
  -- nn
  obtain ⟨xn0, xn1, _, _⟩ := cell_two bn_4.blk
  go_wp2_with fail
  refine (not_ok Vn Mn W4 okn bn_4.tab).mono ?_
  rintro e w5 ⟨hB5, hc5⟩
  rcases hc5 with ⟨Mnn, Vnn, hnn, hnnn, rfl, hT5, _⟩ | ⟨_, hlt, _⟩
  case inr => exfalso; have h40 : (40 : Int).toNat = 40 := rfl; omega
  have oknn := hnn.ok hnnn
  obtain ⟨W5, hW5⟩ : ∃ W, W = w5.alloc (.cells #[.slice (some ⟨Vnn.ba, Vnn.oa, none⟩) (Mnn).n Vnn.ca, .slice (some ⟨Vnn.bn, Vnn.on, none⟩) (Mnn).n Vnn.cn] 26) := ⟨_, rfl⟩
  have bnn_5 : BoxAt W5 w5.heap.size Vnn (Mnn) := by rw [hW5]; exact BoxAt.new hT5
  have D5 : Below W4.heap.size W4 W5 := by rw [hW5]; exact hB5.alloc hB5.size _
  have bt_5 := bt_4.below D5
  clear bt_4
  have bu_5 := bu_4.below D5
  clear bu_4
  have bm_5 := bm_4.below D5
  clear bm_4
  have bn_5 := bn_4.below D5
  clear bn_4
  have BB5 : Below w.heap.size w W5 := BB4.trans (D5.mono BB4.size)
  clear hT5 hB5 D5
  clear xn0 xn1
  clear BB4
  go_upto_region 6 with fail
  rw [← hW5]
  clear hW5
  generalize w5.heap.size = p5 at *
  -- v
  obtain ⟨xu0, xu1, _, _⟩ := cell_two bu_5.blk
  go_wp2_with fail
  refine (not_ok Vu Mu W5 oku bu_5.tab).mono ?_
  rintro e w6 ⟨hB6, hc6⟩
  rcases hc6 with ⟨Mv, Vv, hv, hnv, rfl, hT6, _⟩ | ⟨_, hlt, _⟩
  case inr => exfalso; have h40 : (40 : Int).toNat = 40 := rfl; omega
  have okv := hv.ok hnv
  have szv : Mv.n ≤ 6 := Nat.le_trans (least_le hv (notTab_ok oku) (fun x _ => rfl)) szu.2
  obtain ⟨W6, hW6⟩ : ∃ W, W = w6.alloc (.cells #[.slice (some ⟨Vv.ba, Vv.oa, none⟩) (Mv).n Vv.ca, .slice (some ⟨Vv.bn, Vv.on, none⟩) (Mv).n Vv.cn] 26) := ⟨_, rfl⟩
  have bv_6 : BoxAt W6 w6.heap.size Vv (Mv) := by rw [hW6]; exact BoxAt.new hT6
  have D6 : Below W5.heap.size W5 W6 := by rw [hW6]; exact hB6.alloc hB6.size _
  have bt_6 := bt_5.below D6
  clear bt_5
  have bu_6 := bu_5.below D6
  clear bu_5
  have bm_6 := bm_5.below D6
  clear bm_5
  have bn_6 := bn_5.below D6
  clear bn_5
  have bnn_6 := bnn_5.below D6
  clear bnn_5
  have BB6 : Below w.heap.size w W6 := BB5.trans (D6.mono BB5.size)
  clear hT6 hB6 D6
  clear xu0 xu1
  clear BB5
  go_upto_region 7 with fail
  rw [← hW6]
  clear hW6
  generalize w6.heap.size = p6 at *
  go_upto_region 9 with fail
  -- both
  obtain ⟨xt0, xt1, _, _⟩ := cell_two bt_6.blk
  obtain ⟨xu0, xu1, _, _⟩ := cell_two bu_6.blk
  go_wp2_with fail
  refine (join_ok Vt Vu Mt Mu 0 40 W6 okt oku bt_6.tab bu_6.tab (by omega) (by omega) (by omega) (by omega)).mono ?_
  rintro e w7 ⟨hB7, hc7⟩
  rcases hc7 with ⟨Mboth, Vboth, hboth, hnboth, rfl, hT7, _⟩ | ⟨_, hlt, _⟩
  case inr => exfalso; have h40 : (40 : Int).toNat = 40 := rfl; have := Nat.mul_le_mul szt.2 szu.2; omega
  have okboth := hboth.ok hnboth
  obtain ⟨W7, hW7⟩ : ∃ W, W = w7.alloc (.cells #[.slice (some ⟨Vboth.ba, Vboth.oa, none⟩) (Mboth).n Vboth.ca, .slice (some ⟨Vboth.bn, Vboth.on, none⟩) (Mboth).n Vboth.cn] 26) := ⟨_, rfl⟩
  have bboth_7 : BoxAt W7 w7.heap.size Vboth (Mboth) := by rw [hW7]; exact BoxAt.new hT7
  have D7 : Below W6.heap.size W6 W7 := by rw [hW7]; exact hB7.alloc hB7.size _
  have bt_7 := bt_6.below D7
  clear bt_6
  have bu_7 := bu_6.below D7
  clear bu_6
  have bm_7 := bm_6.below D7
  clear bm_6
  have bn_7 := bn_6.below D7
  clear bn_6
  have bnn_7 := bnn_6.below D7
  clear bnn_6
  have bv_7 := bv_6.below D7
  clear bv_6
  have BB7 : Below w.heap.size w W7 := BB6.trans (D7.mono BB6.size)
  clear hT7 hB7 D7
  clear xt0 xt1 xu0 xu1
  clear BB6
  go_upto_region 10 with fail
  rw [← hW7]
  clear hW7
  generalize w7.heap.size = p7 at *
  -- either
  obtain ⟨xn0, xn1, _, _⟩ := cell_two bn_7.blk
  obtain ⟨xv0, xv1, _, _⟩ := cell_two bv_7.blk
  go_wp2_with fail
  refine (join_ok Vn Vv Mn Mv 1 40 W7 okn okv bn_7.tab bv_7.tab (by omega) (by omega) (by omega) (by omega)).mono ?_
  rintro e w8 ⟨hB8, hc8⟩
  rcases hc8 with ⟨Meither, Veither, heither, hneither, rfl, hT8, _⟩ | ⟨_, hlt, _⟩
  case inr => exfalso; have h40 : (40 : Int).toNat = 40 := rfl; have := Nat.mul_le_mul szn szv; omega
  have okeither := heither.ok hneither
  obtain ⟨W8, hW8⟩ : ∃ W, W = w8.alloc (.cells #[.slice (some ⟨Veither.ba, Veither.oa, none⟩) (Meither).n Veither.ca, .slice (some ⟨Veither.bn, Veither.on, none⟩) (Meither).n Veither.cn] 26) := ⟨_, rfl⟩
  have beither_8 : BoxAt W8 w8.heap.size Veither (Meither) := by rw [hW8]; exact BoxAt.new hT8
  have D8 : Below W7.heap.size W7 W8 := by rw [hW8]; exact hB8.alloc hB8.size _
  have bt_8 := bt_7.below D8
  clear bt_7
  have bu_8 := bu_7.below D8
  clear bu_7
  have bm_8 := bm_7.below D8
  clear bm_7
  have bn_8 := bn_7.below D8
  clear bn_7
  have bnn_8 := bnn_7.below D8
  clear bnn_7
  have bv_8 := bv_7.below D8
  clear bv_7
  have bboth_8 := bboth_7.below D8
  clear bboth_7
  have BB8 : Below w.heap.size w W8 := BB7.trans (D8.mono BB7.size)
  clear hT8 hB8 D8
  clear xn0 xn1 xv0 xv1
  clear BB7
  go_upto_region 11 with fail
  rw [← hW8]
  clear hW8
  generalize w8.heap.size = p8 at *
  -- not
  obtain ⟨xeither0, xeither1, _, _⟩ := cell_two beither_8.blk
  go_wp2_with fail
  refine (not_ok Veither Meither W8 okeither beither_8.tab).mono ?_
  rintro e w9 ⟨hB9, hc9⟩
  rcases hc9 with ⟨Mnot, Vnot, hnot, hnnot, rfl, hT9, _⟩ | ⟨_, hlt, _⟩
  case inr => exfalso; have h40 : (40 : Int).toNat = 40 := rfl; have : Meither.n ≤ 40 := hneither; omega
  have oknot := hnot.ok hnnot
  obtain ⟨W9, hW9⟩ : ∃ W, W = w9.alloc (.cells #[.slice (some ⟨Vnot.ba, Vnot.oa, none⟩) (Mnot).n Vnot.ca, .slice (some ⟨Vnot.bn, Vnot.on, none⟩) (Mnot).n Vnot.cn] 26) := ⟨_, rfl⟩
  have bnot_9 : BoxAt W9 w9.heap.size Vnot (Mnot) := by rw [hW9]; exact BoxAt.new hT9
  have D9 : Below W8.heap.size W8 W9 := by rw [hW9]; exact hB9.alloc hB9.size _
  have bt_9 := bt_8.below D9
  clear bt_8
  have bu_9 := bu_8.below D9
  clear bu_8
  have bm_9 := bm_8.below D9
  clear bm_8
  have bn_9 := bn_8.below D9
  clear bn_8
  have bnn_9 := bnn_8.below D9
  clear bnn_8
  have bv_9 := bv_8.below D9
  clear bv_8
  have bboth_9 := bboth_8.below D9
  clear bboth_8
  have beither_9 := beither_8.below D9
  clear beither_8
  have BB9 : Below w.heap.size w W9 := BB8.trans (D9.mono BB8.size)
  clear hT9 hB9 D9
  clear xeither0 xeither1
  clear BB8
  go_upto_region 12 with fail
  rw [← hW9]
  clear hW9
  generalize w9.heap.size = p9 at *
  -- self
  obtain ⟨xt0, xt1, _, _⟩ := cell_two bt_9.blk
  go_wp2_with fail
  refine (join_ok Vt Vt Mt Mt 1 40 W9 okt okt bt_9.tab bt_9.tab (by omega) (by omega) (by omega) (by omega)).mono ?_
  rintro e w10 ⟨hB10, hc10⟩
  rcases hc10 with ⟨Mself, Vself, hself, hnself, rfl, hT10, _⟩ | ⟨_, hlt, _⟩
  case inr => exfalso; have h40 : (40 : Int).toNat = 40 := rfl; have := Nat.mul_le_mul szt.2 szt.2; omega
  have okself := hself.ok hnself
  obtain ⟨W10, hW10⟩ : ∃ W, W = w10.alloc (.cells #[.slice (some ⟨Vself.ba, Vself.oa, none⟩) (Mself).n Vself.ca, .slice (some ⟨Vself.bn, Vself.on, none⟩) (Mself).n Vself.cn] 26) := ⟨_, rfl⟩
  have bself_10 : BoxAt W10 w10.heap.size Vself (Mself) := by rw [hW10]; exact BoxAt.new hT10
  have D10 : Below W9.heap.size W9 W10 := by rw [hW10]; exact hB10.alloc hB10.size _
  have bt_10 := bt_9.below D10
  clear bt_9
  have bu_10 := bu_9.below D10
  clear bu_9
  have bm_10 := bm_9.below D10
  clear bm_9
  have bn_10 := bn_9.below D10
  clear bn_9
  have bnn_10 := bnn_9.below D10
  clear bnn_9
  have bv_10 := bv_9.below D10
  clear bv_9
  have bboth_10 := bboth_9.below D10
  clear bboth_9
  have beither_10 := beither_9.below D10
  clear beither_9
  have bnot_10 := bnot_9.below D10
  clear bnot_9
  have BB10 : Below w.heap.size w W10 := BB9.trans (D10.mono BB9.size)
  clear hT10 hB10 D10
  clear xt0 xt1
  clear BB9
  go_upto_region 13 with fail
  rw [← hW10]
  clear hW10
  generalize w10.heap.size = p10 at *
  -- none
  obtain ⟨xt0, xt1, _, _⟩ := cell_two bt_10.blk
  obtain ⟨xm0, xm1, _, _⟩ := cell_two bm_10.blk
  go_wp2_with fail
  refine (join_ok Vt Vm Mt Mm 3 40 W10 okt okm bt_10.tab bm_10.tab (by omega) (by omega) (by omega) (by omega)).mono ?_
  rintro e w11 ⟨hB11, hc11⟩
  rcases hc11 with ⟨Mnone, Vnone, hnone, hnnone, rfl, hT11, _⟩ | ⟨_, hlt, _⟩
  case inr => exfalso; have h40 : (40 : Int).toNat = 40 := rfl; have := Nat.mul_le_mul szt.2 szm; omega
  have oknone := hnone.ok hnnone
  obtain ⟨W11, hW11⟩ : ∃ W, W = w11.alloc (.cells #[.slice (some ⟨Vnone.ba, Vnone.oa, none⟩) (Mnone).n Vnone.ca, .slice (some ⟨Vnone.bn, Vnone.on, none⟩) (Mnone).n Vnone.cn] 26) := ⟨_, rfl⟩
  have bnone_11 : BoxAt W11 w11.heap.size Vnone (Mnone) := by rw [hW11]; exact BoxAt.new hT11
  have D11 : Below W10.heap.size W10 W11 := by rw [hW11]; exact hB11.alloc hB11.size _
  have bt_11 := bt_10.below D11
  clear bt_10
  have bu_11 := bu_10.below D11
  clear bu_10
  have bm_11 := bm_10.below D11
  clear bm_10
  have bn_11 := bn_10.below D11
  clear bn_10
  have bnn_11 := bnn_10.below D11
  clear bnn_10
  have bv_11 := bv_10.below D11
  clear bv_10
  have bboth_11 := bboth_10.below D11
  clear bboth_10
  have beither_11 := beither_10.below D11
  clear beither_10
  have bnot_11 := bnot_10.below D11
  clear bnot_10
  have bself_11 := bself_10.below D11
  clear bself_10
  have BB11 : Below w.heap.size w W11 := BB10.trans (D11.mono BB10.size)
  clear hT11 hB11 D11
  clear xt0 xt1 xm0 xm1
  clear BB10
  go_upto_region 14 with fail
  rw [← hW11]
  clear hW11
  generalize w11.heap.size = p11 at *
  obtain ⟨xm0, xm1, _, _⟩ := cell_two bm_11.blk
  obtain ⟨xnn0, xnn1, _, _⟩ := cell_two bnn_11.blk
  go_wp2_with fail
  refine (same_ok Vm Vnn Mm Mnn W11 okm oknn bm_11.tab bnn_11.tab).mono ?_
  rintro e w12 ⟨sw, rfl, hsw, hB12⟩
  have bt_12 := bt_11.below hB12
  clear bt_11
  have bu_12 := bu_11.below hB12
  clear bu_11
  have bm_12 := bm_11.below hB12
  clear bm_11
  have bn_12 := bn_11.below hB12
  clear bn_11
  have bnn_12 := bnn_11.below hB12
  clear bnn_11
  have bv_12 := bv_11.below hB12
  clear bv_11
  have bboth_12 := bboth_11.below hB12
  clear bboth_11
  have beither_12 := beither_11.below hB12
  clear beither_11
  have bnot_12 := bnot_11.below hB12
  clear bnot_11
  have bself_12 := bself_11.below hB12
  clear bself_11
  have bnone_12 := bnone_11.below hB12
  clear bnone_11
  have BB12 : Below w.heap.size w w12 := BB11.trans (hB12.mono BB11.size)
  clear hB12 xm0 xm1 xnn0 xnn1
  clear BB11
  obtain ⟨xboth0, xboth1, _, _⟩ := cell_two bboth_12.blk
  obtain ⟨xnot0, xnot1, _, _⟩ := cell_two bnot_12.blk
  go_wp2_with fail
  refine (same_ok Vboth Vnot Mboth Mnot w12 okboth oknot bboth_12.tab bnot_12.tab).mono ?_
  rintro e w13 ⟨sx, rfl, hsx, hB13⟩
  have bt_13 := bt_12.below hB13
  clear bt_12
  have bu_13 := bu_12.below hB13
  clear bu_12
  have bm_13 := bm_12.below hB13
  clear bm_12
  have bn_13 := bn_12.below hB13
  clear bn_12
  have bnn_13 := bnn_12.below hB13
  clear bnn_12
  have bv_13 := bv_12.below hB13
  clear bv_12
  have bboth_13 := bboth_12.below hB13
  clear bboth_12
  have beither_13 := beither_12.below hB13
  clear beither_12
  have bnot_13 := bnot_12.below hB13
  clear bnot_12
  have bself_13 := bself_12.below hB13
  clear bself_12
  have bnone_13 := bnone_12.below hB13
  clear bnone_12
  have BB13 : Below w.heap.size w w13 := BB12.trans (hB13.mono BB12.size)
  clear hB13 xboth0 xboth1 xnot0 xnot1
  clear BB12
  obtain ⟨xm0, xm1, _, _⟩ := cell_two bm_13.blk
  obtain ⟨xself0, xself1, _, _⟩ := cell_two bself_13.blk
  go_wp2_with fail
  refine (same_ok Vm Vself Mm Mself w13 okm okself bm_13.tab bself_13.tab).mono ?_
  rintro e w14 ⟨sy, rfl, hsy, hB14⟩
  have bt_14 := bt_13.below hB14
  clear bt_13
  have bu_14 := bu_13.below hB14
  clear bu_13
  have bm_14 := bm_13.below hB14
  clear bm_13
  have bn_14 := bn_13.below hB14
  clear bn_13
  have bnn_14 := bnn_13.below hB14
  clear bnn_13
  have bv_14 := bv_13.below hB14
  clear bv_13
  have bboth_14 := bboth_13.below hB14
  clear bboth_13
  have beither_14 := beither_13.below hB14
  clear beither_13
  have bnot_14 := bnot_13.below hB14
  clear bnot_13
  have bself_14 := bself_13.below hB14
  clear bself_13
  have bnone_14 := bnone_13.below hB14
  clear bnone_13
  have BB14 : Below w.heap.size w w14 := BB13.trans (hB14.mono BB13.size)
  clear hB14 xm0 xm1 xself0 xself1
  clear BB13
  have ew : sw = true := by
    rw [hsw]
    refine least_unique hm ⟨hnn.num, hnn.apart, fun x hx => ?_⟩
    rw [hnn.lang x hx, hn.lang x hx]; simp
  have ex : sx = true := by
    rw [hsx]
    refine least_unique hboth ⟨hnot.num, hnot.apart, fun x hx => ?_⟩
    rw [hnot.lang x hx, heither.lang x hx, hn.lang x hx, hv.lang x hx]
    cases Mt.accepts x <;> cases Mu.accepts x <;> rfl
  have ey : sy = true := by
    rw [hsy]
    refine least_unique hm ⟨hself.num, hself.apart, fun x hx => ?_⟩
    rw [hself.lang x hx]
    cases Mt.accepts x <;> rfl
  have hz : SameTab Mnone noTab := least_unique hnone (noTab_least (fun x hx => by
    rw [hm.lang x hx]; cases Mt.accepts x <;> rfl))
  subst ew; subst ex; subst ey
  have hn1 : Mnone.n = 1 := hz.n
  have ha1 : Mnone.acc 0 = false := hz.acc 0 (by omega)
  have hbk := bnone_14
  obtain ⟨y0, y1, _, _⟩ := cell_two hbk.blk
  have y2 := hbk.tab.acc 0 (by omega)
  rw [ha1] at y2
  simp only [Nat.add_zero] at y2
  rw [hn1] at y0 y1
  clear hsw hsx hsy hz hm hn hnn hv hboth heither hnot hself hnone hbk 
  go_wp2_with fail
  go_ret
  exact ⟨ret_bool (by simp), BB14⟩
end Go.Proofs.Ytpngikmcjkjdaaa
