import Derived.OpenShut
import Derived.Test.YtpngikmcjkjdaabG15
import Derived.Test.YtpngikmcjkjdaabG7
set_option linter.unusedVariables false
set_option linter.unusedSimpArgs false
namespace Go.Proofs.Ytpngikmcjkjdaab
open Go.RowKit
set_option linter.unusedVariables false
set_option linter.unusedSimpArgs false
theorem not_gt2 {a b : ByteArray} : (!Op.bytesLess a.toList b.toList && !a.toList == b.toList) = less b a := by rw [← not_gt, Bool.not_or]
theorem own_empty {w : World} {base : Nat} (hb : base ≤ w.heap.size) : (w.alloc (.cells #[] 9)).ownsRow base 9 1 (.slice (some ⟨w.heap.size, 0, none⟩) 0 0) 0 (strs []) :=
  ⟨rfl, .inr ⟨w.heap.size, 0, #[], rfl, hb, heap_at_new rfl, Nat.le_refl _, by unfold maxLen; omega, rfl, rfl⟩⟩
theorem tune_small {s : ByteArray} (h : IsText s) (h5 : s.size ≤ 5) : tuneB s = true := by
  unfold tuneB
  rw [Bool.and_eq_true, decide_eq_true_eq]
  exact ⟨by omega, (textTo_isText s).2 h⟩
theorem tune_size {s : ByteArray} (h : tuneB s = true) : s.size ≤ 12 := by
  unfold tuneB at h
  rw [Bool.and_eq_true, decide_eq_true_eq] at h
  exact h.1
set_option maxRecDepth 20000 in
set_option maxHeartbeats 8000000 in
theorem moved_walk (a1 a2 : Option Addr) (l1 l2 c1 c2 : Nat) (z1 z2 : Nat → Int) (limit gone : Int) (w : World) (h1 : CodeAt w a1 l1 z1) (h2 : CodeAt w a2 l2 z2) (hlen : l1 ≤ 140737488355328) (hl1 : -9223372036854775808 ≤ limit) (hl2 : limit ≤ 9223372036854775807) (hg1 : -9223372036854775808 ≤ gone) (hg2 : gone ≤ 9223372036854775807) :
    Calls Try.prog 9 #[.slice a1 l1 c1, .int .i64 limit, .slice a2 l2 c2, .int .i64 gone] w fun e w' => e = .returned (.bool true) ∧ Below w.heap.size w w' := by
  obtain ⟨i0, hi0, hz0, hz01, hz02⟩ := info_parts Try.infoStr
  have HBK := book_ok a1 l1 c1 5 z1 w h1 hlen (by omega)
  rw [show ((5 : Nat) : Int) = 5 from rfl] at HBK
  have H2 : Hid (CodeAt w a2 l2 z2) := h2
  obtain ⟨p, HP⟩ : ∃ y, Hid (pickN limit 10 = y) := ⟨_, rfl⟩
  have hp : p < 10 := by rw [← HP.out]; exact pickN_lt _ _ (by omega)
  have HPK : Hid (∀ wj, Calls Try.prog 17 #[.int .i64 limit, .int .i64 10] wj fun e w' => e = .returned (.int .i64 (p : Int)) ∧ w' = wj) := fun wj => by
    have := pick_any limit 10 wj (by omega) (by omega) hl1 hl2
    rw [show (10 : Int).toNat = 10 from rfl, HP.out] at this
    exact this
  clear h1 h2
  go_enter Try.func9, Try.ntmps9
  go_wp2_with fail
  refine HBK.mono ?_
  clear HBK
  rintro e w1 ⟨hb1, bx, va, L, t, n, rfl, hbx, hx1, ho1, hsm, hL⟩
  have HSM : Hid (SameT L t n) := hsm
  have HX1 : Hid (Below w.heap.size w w1 ∧ BxAt w1 bx t n cur0 ∧ w1.ownsRow w.heap.size 9 1 va L.length (strs L)) := ⟨hb1, hx1, ho1⟩
  obtain ⟨oa, oc, hva, _⟩ := ownsRow_shape ho1
  subst hva
  clear hb1 hx1 ho1 hsm
  obtain ⟨LA, ca, hLA⟩ := comp_any
  have HC := ca w1
  go_wp2_with fail
  refine HC.mono ?_
  clear HC ca
  rintro e w2 ⟨hb2, R, V, hR, hRd, rfl, hT2, _⟩
  have HRA : Hid (∀ s, IsText s → R.accepts (notesOf s) = true) := fun s hs => by rw [hR.lang _ (notes_of hs), hLA]
  have HRO : Hid R.Ok := hR.isOk hRd
  obtain ⟨W2, hW2⟩ : ∃ W, W = w2.alloc (.cells #[.slice (some ⟨V.ba, V.oa, none⟩) R.n V.ca, .slice (some ⟨V.bn, V.on, none⟩) R.n V.cn] 30) := ⟨_, rfl⟩
  have HBX : BoxK W2 w2.heap.size V R := by rw [hW2]; exact BoxK.new hT2
  have D2 : Below w1.heap.size w1 W2 := by rw [hW2]; exact hb2.alloc hb2.size _
  clear hT2 hb2 hR hLA
  go_upto_region 5 with fail
  rw [← hW2]
  clear hW2
  generalize w2.heap.size = p2 at *
  obtain ⟨x0, x1, _, _⟩ := cell_two HBX.blk
  obtain ⟨W, HW⟩ : ∃ W, Hid (allW R t n = W) := ⟨_, rfl⟩
  have htun : ∀ j, j < n → tuneB (t j) = true := fun j hj => HSM.out.tun _ ((HSM.out.mem _).2 ⟨j, hj, rfl⟩)
  have hWL : W.length = L.length := by
    rw [← HW.out, HSM.out.len]
    refine allW_len (fun j hj => HRA.out _ ?_)
    have := htun j hj
    unfold tuneB at this
    rw [Bool.and_eq_true] at this
    exact (textTo_isText _).1 this.2
  have HTN : Hid (∀ j, j < n → tuneB (t j) = true) := htun
  have hn60 : n ≤ 20 := by have := HSM.out.len; omega
  have HOP := open_page W HRO.out HBX.tab (HX1.out.2.1.below D2)
  have HX2 : Hid (Below w.heap.size w W2 ∧ BxAt W2 bx t n cur0 ∧ W2.ownsRow w.heap.size 9 1 (.slice oa L.length oc) L.length (strs L)) := ⟨HX1.out.1.trans (D2.mono HX1.out.1.size), HX1.out.2.1.below D2, ownsRow_below HX1.out.2.2 D2⟩
  clear HBX D2 HX1 htun
  go_wp2_with fail
  refine HOP.mono ?_
  clear HOP x0 x1
  rintro e w3 ⟨U, rfl, hU, hUF, hx3, hT3⟩
  have HX3 : Hid (MvI w w3 bx n t (curG U R W 0) U R (.slice oa L.length oc) L (.slice none 0 0) []) := ⟨hT3.below HX2.out.1 HX2.out.1.size (fun k e => by omega), hx3, hT3.own HX2.out.2.2 (fun g e hg => bx_own HX2.out.2.1 HX2.out.2.2 e hg), World.ownsRow_nil _ _ _ _, hU, W2.heap.size, World.rowIs.lt HX2.out.2.1, hUF⟩
  clear hU hUF hx3 hT3 HX2
  have HPK3 := HPK.out w3
  obtain ⟨g, hg⟩ : ∃ g, min (1 + p) W.length = g := ⟨_, rfl⟩
  have hNX := next_page (l := 1 + p) HW.out HX3.out.bk HSM.out.srt (by omega) HTN.out HRO.out HX3.out.tab (Nat.zero_le _) (by omega) (by omega)
  rw [show (((1 + p : Nat)) : Int) = 1 + (p : Int) by omega, Nat.sub_zero, hg, List.drop_zero, Nat.zero_add] at hNX
  have HPG : Hid (W.take (1 + p) = W.take g) := by
    unfold Hid
    by_cases hc : 1 + p ≤ W.length
    · rw [show g = 1 + p by omega]
    · rw [List.take_of_length_le (show W.length ≤ 1 + p by omega), List.take_of_length_le (show W.length ≤ g by omega)]
  rw [HPG.out] at hNX
  clear HPG HTN
  go_wp2_with fail
  refine HPK3.mono ?_
  clear HPK3 HPK
  rintro e w' ⟨rfl, hw'⟩
  obtain rfl : w3 = w' := hw'.symm
  go_wp2_with fail
  refine hNX.mono ?_
  clear hNX
  rintro e w4 ⟨vl, rfl, ho4, hx4, ht4⟩
  have HX4 : Hid (MvI w w4 bx n t (curG U R W g) U R (.slice oa L.length oc) L vl (W.take g)) := by
    have := HX3.out.touch hbx ht4 hx4
    have hgl : (W.take g).length = g := take_len W (by omega)
    exact ⟨this.bel, this.bk, this.all, by rw [hgl]; exact own_from ho4 HX3.out.bel.size, this.tab, this.frm⟩
  obtain ⟨al, cl, hvl, _⟩ := ownsRow_shape ho4
  subst hvl
  clear ho4 hx4 ht4 HX3
  have HTX := text_any 5 (by omega) a2 l2 c2 z2 w4 (H2.out.below HX4.out.bel)
  rw [show ((5 : Nat) : Int) = 5 from rfl] at HTX
  clear H2
  by_cases hL0 : 0 < L.length
  · have hg0 : 0 < g := by omega
    have q1 : (L.length : Int) > 0 := by omega
    have q2 : ((g : Int) == 0) = false := by simp; omega
    go_wp2_with fail
    refine HTX.mono ?_
    clear HTX
    rintro e w5 ⟨f, rfl, hf, hf5, hb5⟩
    have HF : Hid (tuneB f = true) := tune_small hf hf5
    have HX5 : Hid (MvI w w5 bx n t (curG U R W g) U R (.slice oa L.length oc) L (.slice al g cl) (W.take g)) := HX4.out.below hb5
    obtain ⟨pf, hpf⟩ := exists_pl t f n
    have HAD := tadd_ok w5 bx n t _ f pf HX5.out.bk (by omega) (by unfold maxLen; omega) hpf
    obtain ⟨Q2, hQ2, hQm, hQl, hae⟩ := mv_add HSM.out HF.out hpf (by omega)
    rw [hae] at HAD
    generalize addT t n f pf = t2 at HAD hQ2
    generalize addN t n f pf = n2 at HAD hQ2
    generalize addOk t n f pf = ok2 at HAD
    have HQ2 : Hid (SameT Q2 t2 n2 ∧ (∀ s, s ∈ Q2 ↔ s ∈ L ∨ s = f)) := ⟨hQ2, hQm⟩
    clear hf hb5 HX4 hQ2 hQm hae hpf
    go_wp2_with fail
    refine HAD.mono ?_
    clear HAD
    rintro e w6 ⟨rfl, hx6, ht6⟩
    have HX6 : Hid (MvI w w6 bx n2 t2 (curG U R W g) U R (.slice oa L.length oc) L (.slice al g cl) (W.take g)) := HX5.out.touch hbx ht6 hx6
    clear hx6 ht6 HX5
    have o7 : (w6.alloc (.cells #[] 9)).ownsRow w6.heap.size 9 1 (.slice (some ⟨w6.heap.size, 0, none⟩) 0 0) 0 (strs []) := own_empty (Nat.le_refl _)
    have o7L : (w6.alloc (.cells #[] 9)).ownsRow w.heap.size 9 1 (.slice oa L.length oc) L.length (strs L) := ownsRow_below HX6.out.all ((Below.refl _ _).alloc (Nat.le_refl _) _)
    have HB7 : Hid (∀ w8 v8, (w6.alloc (.cells #[] 9)).grownBy w8 (Value.slice (some ⟨w6.heap.size, 0, none⟩) 0 0).ownBlock → w8.ownsRow w6.heap.size 9 1 v8 (0 + L.length) (strs [] ++ strs L) → (w8.alloc (.cells #[.string f] 9)).ownsRow w6.heap.size 9 1 v8 L.length (strs L) ∧ Below w6.heap.size w6 w8 ∧ w6.heap.size ≤ w8.heap.size ∧ ∃ o c, v8 = .slice o L.length c) := fun w8 v8 hg ho => by
      rw [Nat.zero_add, show strs [] ++ strs L = strs L from rfl] at ho
      have hb := ((Below.refl w6.heap.size w6).alloc (Nat.le_refl _) (.cells #[] 9)).grown hg (by simp) (fun y e => by simp [Value.ownBlock] at e; omega)
      obtain ⟨o, c, e, _⟩ := ownsRow_shape ho
      exact ⟨ho.alloc _, hb, hb.size, o, c, e⟩
    have s7 : w6.heap.size ≤ (w6.alloc (.cells #[] 9)).heap.size := by simp
    go_upto_region 12 with (first
      | (at_builtin; refine wpList_app_list _ rfl _ _ 39 rfl w6.heap.size w.heap.size 9 i0 (.string ByteArray.empty) 16 Try.underlying39 hi0 hz0 hz01 hz02 rfl _ 0 (strs []) rfl o7 _ L.length (strs L) rfl o7L (oneCell_strs _) (by unfold maxLen; omega) (by omega) s7 ?_; intro v8 w8 hown8 hgr8; obtain ⟨hna, hb8, hs8, o8, k8, hv8⟩ := HB7.out w8 v8 hgr8 hown8; subst hv8; have HB8 : Hid (Below w6.heap.size w6 w8) := hb8; clear hown8 hgr8 hb8 HB7 o7 o7L s7)
      | (at_builtin; refine wpList_append_fresh _ rfl _ _ 39 rfl w6.heap.size 9 i0 (.string ByteArray.empty) 1 16 Try.underlying39 hi0 hz0 hz01 hz02 rfl (by decide) _ L.length (strs L) rfl hna ⟨w8.heap.size, 0, none⟩ 1 1 [.string f] rfl rfl (cell_one_new _ _ _) (by intro u hu; simp at hu; subst hu; rfl) (by decide) (by unfold maxLen; omega) (by omega) (by simp; omega) ?_; intro g9 k9 w9 hown9 hgr9 _; have HI9 : Hid (w9.ownsRow w6.heap.size 9 1 (.slice (some ⟨g9, 0, none⟩) (L.length + 1) k9) (L.length + 1) (strs (L ++ [f])) ∧ Below w6.heap.size w6 w9) := ⟨by rw [strs_snoc] at hown9; exact hown9, (HB8.out.alloc hs8 _).grown hgr9 (by simp; omega) (fun y e => (hna.lt y e).1)⟩; clear hown9 hgr9 hna))
    have HX9 : Hid (MvI w w9 bx n2 t2 (curG U R W g) U R (.slice oa L.length oc) L (.slice al g cl) (W.take g)) := HX6.out.below HI9.out.2
    have HPG := pick_any gone (L.length : Int) w9 (by omega) (by omega) hg1 hg2
    rw [Int.toNat_natCast] at HPG
    obtain ⟨k, HK⟩ : ∃ y, Hid (pickN gone L.length = y) := ⟨_, rfl⟩
    have hk : k < L.length := by rw [← HK.out]; exact pickN_lt _ _ hL0
    rw [HK.out] at HPG
    obtain ⟨d, hd⟩ : ∃ d, L[k]? = some d := ⟨_, List.getElem?_eq_getElem hk⟩
    have hdL : d ∈ L := List.mem_of_getElem? hd
    obtain ⟨ga, ea, cd⟩ : ∃ ga, oa = some ⟨ga, 0, none⟩ ∧ w9.cell? ⟨ga, k, none⟩ = some (.string d) := by
      obtain ⟨ao, co, e, hc⟩ := ownsRow_shape HX9.out.all
      injection e with e1 e2 e3
      subst e1
      obtain ⟨ga, e, hg⟩ := hc (by omega)
      exact ⟨ga, e, (hg k (by omega)).trans (strs_get? hd)⟩
    subst ea
    obtain ⟨pd, hpd⟩ := exists_pl t2 d n2
    have HDP := tdrop_ok w9 bx n2 t2 _ d pd HX9.out.bk (by have := HQ2.out.1.len; omega) (by have := tune_size (HSM.out.tun d hdL); unfold maxLen; omega) hpd
    obtain ⟨Q3, hQ3, hQ3m, hQ3l, hde⟩ := mv_drop HQ2.out.1 ((HQ2.out.2 d).2 (.inl hdL)) hpd
    rw [hde] at HDP
    generalize dropT t2 n2 d pd = t3 at HDP hQ3
    generalize dropN t2 n2 d pd = n3 at HDP hQ3
    generalize dropOk t2 n2 d pd = ok3 at HDP
    have HQ3 : Hid (SameT Q3 t3 n3) := hQ3
    have hn3 : n3 ≤ 50 := by have := hQ3.len; omega
    have HTS : Hid (∀ s, s ∈ L ++ [f] ++ [d] → tuneB s = true ∧ (s ∈ Q3 ↔ s ≠ d)) := fun s hs => by
      have hs' : s ∈ L ∨ s = f := by
        rw [List.mem_append, List.mem_append, List.mem_singleton, List.mem_singleton] at hs
        rcases hs with (h | h) | h
        · exact .inl h
        · exact .inr h
        · subst h; exact .inl hdL
      refine ⟨?_, ?_⟩
      · rcases hs' with h | rfl
        · exact HSM.out.tun s h
        · exact HF.out
      · rw [hQ3m, HQ2.out.2]
        exact ⟨fun h => h.2, fun h => ⟨hs', h⟩⟩
    have HSUB : Hid (∀ s ∈ Q3, s ∈ L ++ [f] ++ [d]) := fun s hs => by
      have := (HQ2.out.2 s).1 ((hQ3m s).1 hs).1
      rw [List.mem_append, List.mem_append, List.mem_singleton, List.mem_singleton]
      exact .inl this
    clear hde hpd hQ3 hQ3m hd hdL HQ2
    go_wp2_with fail
    refine HPG.mono ?_
    clear HPG HK
    rintro e w' ⟨rfl, hw'⟩
    obtain rfl : w9 = w' := hw'.symm
    go_wp2_with fail
    refine HDP.mono ?_
    clear HDP cd
    rintro e w10 ⟨rfl, hx10, ht10⟩
    obtain ⟨Wv, hv1, hv2, hv3, hv4⟩ := Touch.cutW (touch_then' (touch_of_below' HI9.out.2) ht10)
    have HXV : Hid (MvI w Wv bx n3 t3 (curG U R W g) U R (.slice (some ⟨ga, 0, none⟩) L.length oc) L (.slice al g cl) (W.take g)) := HX6.out.touch hbx hv1 (World.rowIs.of_block hx10 (hv4 bx (World.rowIs.lt HX6.out.bk)))
    have o10 := ht10.own HI9.out.1 (fun g e hg => bx_own HX9.out.bk HI9.out.1 e hg)
    rw [← hv3] at o10
    have hv5 := hv2.size
    have hna := o10.alloc (.cells #[.string d] 9)
    have HV2 : Hid (Below Wv.heap.size Wv w10) := hv2
    clear hx10 ht10 HI9 HX6 hv1 hv2 hv3 hv4 HX9 o10
    go_upto_region 18 with (at_builtin; refine wpList_append_fresh _ rfl _ _ 39 rfl Wv.heap.size 9 i0 (.string ByteArray.empty) 1 16 Try.underlying39 hi0 hz0 hz01 hz02 rfl (by decide) _ (L.length + 1) (strs (L ++ [f])) rfl hna ⟨w10.heap.size, 0, none⟩ 1 1 [.string d] rfl rfl (cell_one_new _ _ _) (by intro u hu; simp at hu; subst hu; rfl) (by decide) (by unfold maxLen; omega) (by omega) (by simp; omega) ?_; intro g11 k11 w11 hown11 hgr11 _; have HIN : Hid (w11.ownsRow Wv.heap.size 9 1 (.slice (some ⟨g11, 0, none⟩) (L.length + 1 + 1) k11) (L ++ [f] ++ [d]).length (strs (L ++ [f] ++ [d])) ∧ Below Wv.heap.size Wv w11) := ⟨by rw [strs_snoc] at hown11; simpa using hown11, (HV2.out.alloc hv5 _).grown hgr11 (by simp; omega) (fun y e => (hna.lt y e).1)⟩; clear hown11 hgr11 hna)
    have HSO := sorted_ok w11 _ Wv.heap.size (L ++ [f] ++ [d]) (by simp; omega) HIN.out.1
    go_wp2_with fail
    refine HSO.mono ?_
    clear HSO
    rintro e w12 ⟨hb12, u12, Ls, rfl, ho12, hl12, hs12, hm12⟩
    have hlz : Ls.length ≤ 22 := by rw [hl12]; simp; omega
    have HXS : Hid (MvI w w12 bx n3 t3 (curG U R W g) U R (.slice (some ⟨ga, 0, none⟩) L.length oc) L (.slice al g cl) (W.take g)) := HXV.out.below (HIN.out.2.trans (hb12.mono HIN.out.2.size))
    have HLS : Hid (LeS Ls ∧ (∀ s, s ∈ Ls ↔ s ∈ L ++ [f] ++ [d]) ∧ w12.ownsRow w11.heap.size 9 1 u12 Ls.length (strs Ls)) := ⟨hs12, hm12, ho12⟩
    obtain ⟨az, cs, hus, _⟩ := ownsRow_shape ho12
    subst hus
    clear hb12 ho12 hl12 hs12 hm12 HIN HXV
    go_wp2_with fail
    go_loopw [27, 28] (fun v i' wr => ∃ (i : Nat) (O : List ByteArray), i ≤ Ls.length ∧ i' = .int .i64 (i : Int) ∧ O.length ≤ i ∧ Hid (WnI W g Q3 Ls i O) ∧ Below w12.heap.size w12 wr ∧ wr.ownsRow w12.heap.size 9 1 v O.length (strs O)) (fun _ i' _ => Ls.length - (intOf i').toNat)
    case atStart => exact ⟨0, [], by omega, rfl, by simp, ⟨List.Pairwise.nil, fun s => by simp⟩, Below.refl _ _, World.ownsRow_nil _ _ _ _⟩
    case round =>
      obtain ⟨i, O, hi, rfl, hOi, HWN, hb, hown⟩ := hrel
      obtain ⟨fa, fc, hvf, hsf⟩ := ownsRow_shape hown
      subst hvf
      obtain ⟨nO, hnO⟩ : ∃ k, O.length = k := ⟨_, rfl⟩
      rw [hnO] at hown hsf hOi ⊢
      have HNO : Hid (O.length = nO) := hnO
      clear hnO
      have hbs := hb.size
      have HXR : Hid (MvI w wr bx n3 t3 (curG U R W g) U R (.slice (some ⟨ga, 0, none⟩) L.length oc) L (.slice al g cl) (W.take g)) := HXS.out.below hb
      have HB : Hid (Below w12.heap.size w12 wr ∧ wr.ownsRow w12.heap.size 9 1 (.slice fa nO fc) nO (strs O)) := ⟨hb, hown⟩
      by_cases hlt : i < Ls.length
      · obtain ⟨x, hx⟩ : ∃ x, Ls[i]? = some x := ⟨_, List.getElem?_eq_getElem hlt⟩
        have q3 : (i : Int) < (Ls.length : Int) := by omega
        obtain ⟨gs, es, cx⟩ : ∃ gs, az = some ⟨gs, 0, none⟩ ∧ ∀ wj, Below wr.heap.size wr wj → wj.cell? ⟨gs, i, none⟩ = some (.string x) := by
          obtain ⟨ao, co, e, hc⟩ := ownsRow_shape (ownsRow_below HLS.out.2.2 hb)
          injection e with e1 e2 e3
          subst e1
          obtain ⟨gs, e, hg⟩ := hc (by omega)
          have h := (hg i (by omega)).trans (strs_get? hx)
          exact ⟨gs, e, fun wj hj => ((bcell hj).1 gs i (lt_of_cell h)).trans h⟩
        subst es
        have cx0 := cx wr (Below.refl _ _)
        obtain ⟨htx, hxq⟩ := HTS.out x ((HLS.out.2.1 x).1 (List.mem_of_getElem? hx))
        have hx12 := tune_size htx
        obtain ⟨px, hpx⟩ := exists_pl t3 x n3
        obtain ⟨hh1, hh2⟩ := mv_has HQ3.out htx hpx
        have HHS : Hid (∀ wj, Below wr.heap.size wr wj → Calls Try.prog 36 #[.pointer (some ⟨bx, 0, none⟩), .string x] wj fun e w' => e = .returned (.tuple #[.bool (dropOk t3 n3 x px), .int .i64 0]) ∧ w' = wj) := fun wj hj => by
          have := thas_ok wj bx n3 t3 _ x px (HXR.out.below hj).bk (by omega) (by unfold maxLen; omega) hpx
          rw [hh2] at this
          exact this
        generalize dropOk t3 n3 x px = has at HHS hh1
        have HNX : Hid (has = true ↔ x ∈ Q3) := hh1
        have HX : Hid (Ls[i]? = some x) := hx
        clear hh2 hpx hx hown
        have HXD : Hid (has = true ↔ x ≠ d) := hh1.trans hxq
        clear hh1 hxq
        obtain ⟨la, hla⟩ : ∃ la, (W.take g)[g - 1]? = some la := ⟨_, List.getElem?_eq_getElem (by rw [take_len W (by omega)]; omega)⟩
        have HBE : Hid (behB W g x = less la x) := by
          unfold Hid behB
          rw [List.getElem?_take_of_lt (by omega)] at hla
          rw [List.getD_eq_getElem?_getD, hla]
          simp
          omega
        obtain ⟨gl, el, cl0⟩ : ∃ gl, al = some ⟨gl, 0, none⟩ ∧ wr.cell? ⟨gl, g - 1, none⟩ = some (.string la) := by
          obtain ⟨ao, co, e, hc⟩ := ownsRow_shape HXR.out.pg
          injection e with e1 e2 e3
          subst e1
          have hz : (W.take g).length = g := take_len W (by omega)
          obtain ⟨gs, e, hg⟩ := hc (by omega)
          exact ⟨gs, e, (hg (g - 1) (by omega)).trans (strs_get? hla)⟩
        subst el
        clear hla
        have HG0 : Hid (0 < g) := hg0
        obtain ⟨g1, eg1⟩ : ∃ g1, g - 1 = g1 := ⟨_, rfl⟩
        rw [eg1] at cl0
        have hwm : IntKind.i64.wrap ((g : Int) - 1) = (g1 : Int) := by rw [IntKind.wrap_i64]; omega
        have q8 : (g1 : Int) < (g : Int) := by omega
        clear eg1
        go_wp2_with fail
        go_quiet (fail)
        simp only [not_gt2]
        obtain ⟨be, hbe⟩ : ∃ b, less la x = b := ⟨_, rfl⟩
        rw [hbe] at HBE ⊢
        obtain ⟨wp, hwp⟩ : ∃ y, y = wr.drewN nq := ⟨_, rfl⟩
        rw [← hwp]
        have hbp : Below wr.heap.size wr wp := by rw [hwp]; exact below_drewN (Below.refl _ _) nq
        clear hwp hbe cl0 cx0
        have HH := HHS.out wp hbp
        have cxp := cx wp hbp
        have HBP : Hid (Below w12.heap.size w12 wp ∧ wp.ownsRow w12.heap.size 9 1 (.slice fa nO fc) nO (strs O)) := ⟨HB.out.1.trans (hbp.mono hbs), ownsRow_below HB.out.2 hbp⟩
        have hbsp : w12.heap.size ≤ wp.heap.size := HBP.out.1.size
        have hLST : ∀ m, nO = m + 1 → ∃ g y, fa = some ⟨g, 0, none⟩ ∧ O.getLast? = some y ∧ wp.cell? ⟨g, m, none⟩ = some (.string y) := fun m e => by
          obtain ⟨g, e1, c1⟩ := hsf (by omega)
          have hO := HNO.out
          have h := (c1 m (by omega)).trans (strs_get (show m < O.length by omega))
          exact ⟨g, _, e1, by rw [List.getLast?_eq_getElem?, List.getElem?_eq_getElem (by omega)]; simp only [hO, e, Nat.add_sub_cancel], ((bcell hbp).1 g m (lt_of_cell h)).trans h⟩
        have HSKIP : Hid ((behB W g x = false ∨ x ∉ Q3 ∨ O.getLast? = some x) → WnI W g Q3 Ls (i + 1) O) := fun h => HWN.out.skip HX.out h
        have HADD : Hid (behB W g x = true → x ∈ Q3 → O.getLast? ≠ some x → WnI W g Q3 Ls (i + 1) (O ++ [x])) := fun h1 h2 h3 => HWN.out.add HLS.out.1 HX.out h1 h2 h3
        have HCX : Hid (∀ wj, Below wp.heap.size wp wj → wj.cell? ⟨gs, i, none⟩ = some (.string x)) := fun wj hj => cx wj (hbp.trans (hj.mono hbp.size))
        clear cx hsf hb hbp HHS
        go_wp2_with fail
        refine HH.mono ?_
        clear HH
        rintro e w' ⟨rfl, hw'⟩
        obtain rfl : wp = w' := hw'.symm
        cases has with
        | false =>
          have HEX : Hid (x = d) := by
            unfold Hid
            by_cases e : x = d
            · exact e
            · have := HXD.out.2 e; cases this
          have q5 : (x.toList == d.toList) = true := by rw [beq_str]; simp [HEX.out]
          have HW2 : Hid (WnI W g Q3 Ls (i + 1) O) := HSKIP.out (.inr (.inl (fun h => by have := HNX.out.2 h; cases this)))
          clear hLST HCX HADD HSKIP
          cases be
          all_goals
            go_wp2_with fail
            go_quiet (fail)
            go_wp2_with fail
            go_roundw
            case rel => exact ⟨i + 1, O, by omega, by go_num, by have := HNO.out; omega, HW2, below_drewN HBP.out.1 nq, by rw [HNO.out]; exact ownsRow_below HBP.out.2 (below_drewN (Below.refl _ _) nq)⟩
            case measure => simp [intOf]; omega
        | true =>
          have HQX : Hid (x ∈ Q3) := HNX.out.1 rfl
          have q5 : (x.toList == d.toList) = false := by rw [beq_str]; simp [HXD.out.1 rfl]
          cases be with
          | false =>
            have HW2 : Hid (WnI W g Q3 Ls (i + 1) O) := HSKIP.out (.inl HBE.out)
            clear hLST HCX HADD HSKIP
            go_wp2_with fail
            go_quiet (fail)
            go_wp2_with fail
            go_roundw
            case rel => exact ⟨i + 1, O, by omega, by go_num, by have := HNO.out; omega, HW2, below_drewN HBP.out.1 nq, by rw [HNO.out]; exact ownsRow_below HBP.out.2 (below_drewN (Below.refl _ _) nq)⟩
            case measure => simp [intOf]; omega
          | true =>
            have HNA : ∀ wj, (∃ q, wj = wp.drewN q) → (wj.alloc (.cells #[.string x] 9)).ownsRow w12.heap.size 9 1 (.slice fa nO fc) nO (strs O) ∧ Below w12.heap.size w12 wj ∧ w12.heap.size ≤ wj.heap.size ∧ wj.cell? ⟨gs, i, none⟩ = some (.string x) := by
              rintro wj ⟨q, rfl⟩
              have hb2 := below_drewN HBP.out.1 q
              exact ⟨(ownsRow_below HBP.out.2 (below_drewN (Below.refl _ _) q)).alloc _, hb2, hb2.size, HCX.out _ (below_drewN (Below.refl _ _) q)⟩
            have HOW : Hid (∀ z, (Value.slice fa nO fc).ownBlock = some z → w12.heap.size ≤ z) := fun z e => (HBP.out.2.lt z e).1
            clear HCX
            cases nO with
            | zero =>
              have HW2 : Hid (WnI W g Q3 Ls (i + 1) (O ++ [x])) := HADD.out HBE.out HQX.out (by rw [List.eq_nil_of_length_eq_zero HNO.out]; simp)
              clear hLST HADD HSKIP
              go_wp2_with fail
              go_quiet (fail)
              obtain ⟨wk, hwk⟩ : ∃ y, y = wp.drewN nq := ⟨_, rfl⟩
              rw [← hwk]
              obtain ⟨hna, hbk, hsk, ck⟩ := HNA wk ⟨nq, hwk⟩
              have HBK : Hid (Below w12.heap.size w12 wk) := hbk
              clear hwk hbk HNA
              go_wp2_with (at_builtin; refine wpList_append_fresh _ rfl _ _ 39 rfl w12.heap.size 9 i0 (.string ByteArray.empty) 1 16 Try.underlying39 hi0 hz0 hz01 hz02 rfl (by decide) _ 0 (strs O) rfl hna ⟨wk.heap.size, 0, none⟩ 1 1 [.string x] rfl rfl (cell_one_new _ _ _) (by intro u hu; simp at hu; subst hu; rfl) (by decide) (by unfold maxLen; omega) (by omega) (by simp; omega) ?_; intro gz kz wz hownz hgrz _; have HOZ : Hid (wz.ownsRow w12.heap.size 9 1 (.slice (some ⟨gz, 0, none⟩) (0 + 1) kz) (0 + 1) (strs O ++ [.string x])) := hownz; have HGZ : Hid ((wk.alloc (.cells #[.string x] 9)).grownBy wz (Value.slice fa 0 fc).ownBlock) := hgrz; clear hownz hgrz hna)
              go_roundw
              case rel =>
                have ho := HOZ.out
                rw [strs_snoc] at ho
                have hO := HNO.out
                refine ⟨i + 1, O ++ [x], by omega, by go_num, by rw [List.length_append, List.length_singleton]; omega, HW2, (HBK.out.alloc hsk _).grown HGZ.out (by simp; omega) (fun z e => HOW.out z e), ?_⟩
                rw [List.length_append, List.length_singleton, hO]
                exact ho
              case measure => simp [intOf]; omega
            | succ m =>
              obtain ⟨gf, y, rfl, hly, cy⟩ := hLST m rfl
              have q6 : ((m : Int) + 1 == 0) = false := by simp; omega
              have hwm2 : IntKind.i64.wrap (m : Int) = (m : Int) := by rw [IntKind.wrap_i64]; omega
              by_cases exy : y = x
              · have q7 : (y.toList == x.toList) = true := by rw [beq_str]; simp [exy]
                have HW2 : Hid (WnI W g Q3 Ls (i + 1) O) := HSKIP.out (.inr (.inr (by rw [hly, exy])))
                clear hLST HADD HSKIP exy hly HNA
                go_wp2_with fail
                go_quiet (fail)
                go_wp2_with fail
                go_roundw
                case rel => exact ⟨i + 1, O, by omega, by go_num, by have := HNO.out; omega, HW2, below_drewN HBP.out.1 nq, by rw [HNO.out]; exact ownsRow_below HBP.out.2 (below_drewN (Below.refl _ _) nq)⟩
                case measure => simp [intOf]; omega
              · have q7 : (y.toList == x.toList) = false := by rw [beq_str]; simp [exy]
                have HW2 : Hid (WnI W g Q3 Ls (i + 1) (O ++ [x])) := HADD.out HBE.out HQX.out (by rw [hly]; intro e; injection e with e; exact exy e)
                clear hLST HADD HSKIP hly
                go_wp2_with fail
                go_quiet (fail)
                obtain ⟨wk, hwk⟩ : ∃ y, y = wp.drewN nq := ⟨_, rfl⟩
                rw [← hwk]
                obtain ⟨hna, hbk, hsk, ck⟩ := HNA wk ⟨nq, hwk⟩
                have HBK : Hid (Below w12.heap.size w12 wk) := hbk
                clear hwk hbk HNA
                go_wp2_with (at_builtin; refine wpList_append_fresh _ rfl _ _ 39 rfl w12.heap.size 9 i0 (.string ByteArray.empty) 1 16 Try.underlying39 hi0 hz0 hz01 hz02 rfl (by decide) _ (m + 1) (strs O) rfl hna ⟨wk.heap.size, 0, none⟩ 1 1 [.string x] rfl rfl (cell_one_new _ _ _) (by intro u hu; simp at hu; subst hu; rfl) (by decide) (by unfold maxLen; omega) (by omega) (by simp; omega) ?_; intro gz kz wz hownz hgrz _; have HOZ : Hid (wz.ownsRow w12.heap.size 9 1 (.slice (some ⟨gz, 0, none⟩) ((m + 1) + 1) kz) ((m + 1) + 1) (strs O ++ [.string x])) := hownz; have HGZ : Hid ((wk.alloc (.cells #[.string x] 9)).grownBy wz (Value.slice (some ⟨gf, 0, none⟩) (m + 1) fc).ownBlock) := hgrz; clear hownz hgrz hna)
                go_roundw
                case rel =>
                  have ho := HOZ.out
                  rw [strs_snoc] at ho
                  have hO := HNO.out
                  refine ⟨i + 1, O ++ [x], by omega, by go_num, by rw [List.length_append, List.length_singleton]; omega, HW2, (HBK.out.alloc hsk _).grown HGZ.out (by simp; omega) (fun z e => HOW.out z e), ?_⟩
                  rw [List.length_append, List.length_singleton, hO]
                  exact ho
                case measure => simp [intOf]; omega
      · have ei : i = Ls.length := by omega
        subst ei
        have q3 : ¬ (Ls.length : Int) < (Ls.length : Int) := by omega
        have HNX := next_moved HXR.out.bk HRO.out HXR.out.tab HWN.out HQ3.out hn3 (fun s hs => (HLS.out.2.1 s).2 (HSUB.out s hs)) HRA.out
        have hO := HNO.out
        rw [hO] at HNX
        have HKS : Hid (∀ wj v, Touch (fun j => j = bx) wr wj → wj.ownsRow wr.heap.size 9 1 v nO (strs O) → (Calls Try.prog 30 #[v, .slice fa nO fc] wj fun e w' => e = .returned (.bool true) ∧ Below wj.heap.size wj w') ∧ Below w.heap.size w wj) := fun wj v hT ho => by
          have h2 := hT.own HB.out.2 (fun g e hg => bx_own HXR.out.bk HB.out.2 e hg)
          rw [← hO] at h2 ho ⊢
          exact ⟨ksame_ok wj v _ _ _ O (by omega) ho h2, hT.below HXR.out.bel HXR.out.bel.size (fun k e => by omega)⟩
        clear hb hown hsf hO
        go_wp2_with fail
        refine HNX.mono ?_
        clear HNX
        rintro e w13 ⟨v13, rfl, ho13, ht13⟩
        obtain ⟨hks, hb13⟩ := HKS.out w13 v13 ht13 ho13
        have HB13 : Hid (Below w.heap.size w w13) := hb13
        clear ho13 ht13 hb13 HKS
        go_wp2_with fail
        refine hks.mono ?_
        clear hks
        rintro e w14 ⟨rfl, hb14⟩
        have HF14 : Hid (Below w.heap.size w w14) := HB13.out.trans (hb14.mono HB13.out.size)
        clear hb14
        go_wp2_with fail
        go_ret
        exact ⟨rfl, HF14.out⟩
  · have HEG : Hid (g = 0) := by unfold Hid; omega
    have q1 : decide ((L.length : Int) > 0) = false := by rw [decide_eq_false_iff_not]; omega
    have q2 : ((g : Int) == 0) = true := by simp; omega
    go_wp2_with fail
    refine HTX.mono ?_
    clear HTX
    rintro e w5 ⟨f, rfl, hf, hf5, hb5⟩
    have HF : Hid (tuneB f = true) := tune_small hf hf5
    have HX5 : Hid (MvI w w5 bx n t (curG U R W g) U R (.slice oa L.length oc) L (.slice al g cl) (W.take g)) := HX4.out.below hb5
    obtain ⟨pf, hpf⟩ := exists_pl t f n
    have HAD := tadd_ok w5 bx n t _ f pf HX5.out.bk (by omega) (by unfold maxLen; omega) hpf
    obtain ⟨Q2, hQ2, hQm, hQl, hae⟩ := mv_add HSM.out HF.out hpf (by omega)
    rw [hae] at HAD
    generalize addT t n f pf = t2 at HAD hQ2
    generalize addN t n f pf = n2 at HAD hQ2
    generalize addOk t n f pf = ok2 at HAD
    have HQ2 : Hid (SameT Q2 t2 n2 ∧ (∀ s, s ∈ Q2 ↔ s ∈ L ∨ s = f)) := ⟨hQ2, hQm⟩
    clear hf hb5 HX4 hQ2 hQm hae hpf
    go_wp2_with fail
    refine HAD.mono ?_
    clear HAD
    rintro e w6 ⟨rfl, hx6, ht6⟩
    have HX6 : Hid (MvI w w6 bx n2 t2 (curG U R W g) U R (.slice oa L.length oc) L (.slice al g cl) (W.take g)) := HX5.out.touch hbx ht6 hx6
    clear hx6 ht6 HX5
    have o7 : (w6.alloc (.cells #[] 9)).ownsRow w6.heap.size 9 1 (.slice (some ⟨w6.heap.size, 0, none⟩) 0 0) 0 (strs []) := own_empty (Nat.le_refl _)
    have o7L : (w6.alloc (.cells #[] 9)).ownsRow w.heap.size 9 1 (.slice oa L.length oc) L.length (strs L) := ownsRow_below HX6.out.all ((Below.refl _ _).alloc (Nat.le_refl _) _)
    have HB7 : Hid (∀ w8 v8, (w6.alloc (.cells #[] 9)).grownBy w8 (Value.slice (some ⟨w6.heap.size, 0, none⟩) 0 0).ownBlock → w8.ownsRow w6.heap.size 9 1 v8 (0 + L.length) (strs [] ++ strs L) → (w8.alloc (.cells #[.string f] 9)).ownsRow w6.heap.size 9 1 v8 L.length (strs L) ∧ Below w6.heap.size w6 w8 ∧ w6.heap.size ≤ w8.heap.size ∧ ∃ o c, v8 = .slice o L.length c) := fun w8 v8 hg ho => by
      rw [Nat.zero_add, show strs [] ++ strs L = strs L from rfl] at ho
      have hb := ((Below.refl w6.heap.size w6).alloc (Nat.le_refl _) (.cells #[] 9)).grown hg (by simp) (fun y e => by simp [Value.ownBlock] at e; omega)
      obtain ⟨o, c, e, _⟩ := ownsRow_shape ho
      exact ⟨ho.alloc _, hb, hb.size, o, c, e⟩
    have s7 : w6.heap.size ≤ (w6.alloc (.cells #[] 9)).heap.size := by simp
    go_upto_region 12 with (first
      | (at_builtin; refine wpList_app_list _ rfl _ _ 39 rfl w6.heap.size w.heap.size 9 i0 (.string ByteArray.empty) 16 Try.underlying39 hi0 hz0 hz01 hz02 rfl _ 0 (strs []) rfl o7 _ L.length (strs L) rfl o7L (oneCell_strs _) (by unfold maxLen; omega) (by omega) s7 ?_; intro v8 w8 hown8 hgr8; obtain ⟨hna, hb8, hs8, o8, k8, hv8⟩ := HB7.out w8 v8 hgr8 hown8; subst hv8; have HB8 : Hid (Below w6.heap.size w6 w8) := hb8; clear hown8 hgr8 hb8 HB7 o7 o7L s7)
      | (at_builtin; refine wpList_append_fresh _ rfl _ _ 39 rfl w6.heap.size 9 i0 (.string ByteArray.empty) 1 16 Try.underlying39 hi0 hz0 hz01 hz02 rfl (by decide) _ L.length (strs L) rfl hna ⟨w8.heap.size, 0, none⟩ 1 1 [.string f] rfl rfl (cell_one_new _ _ _) (by intro u hu; simp at hu; subst hu; rfl) (by decide) (by unfold maxLen; omega) (by omega) (by simp; omega) ?_; intro g9 k9 w9 hown9 hgr9 _; have HI9 : Hid (w9.ownsRow w6.heap.size 9 1 (.slice (some ⟨g9, 0, none⟩) (L.length + 1) k9) (L.length + 1) (strs (L ++ [f])) ∧ Below w6.heap.size w6 w9) := ⟨by rw [strs_snoc] at hown9; exact hown9, (HB8.out.alloc hs8 _).grown hgr9 (by simp; omega) (fun y e => (hna.lt y e).1)⟩; clear hown9 hgr9 hna))
    have HXV : Hid (MvI w w6 bx n2 t2 (curG U R W g) U R (.slice oa L.length oc) L (.slice al g cl) (W.take g)) := HX6
    have HIN : Hid (w9.ownsRow w6.heap.size 9 1 (.slice (some ⟨g9, 0, none⟩) (L.length + 1) k9) (L ++ [f]).length (strs (L ++ [f])) ∧ Below w6.heap.size w6 w9) := ⟨by simpa using HI9.out.1, HI9.out.2⟩
    have HQ3 : Hid (SameT Q2 t2 n2) := HQ2.out.1
    have hn3 : n2 ≤ 50 := by have := HQ2.out.1.len; omega
    have HSUB : Hid (∀ s ∈ Q2, s ∈ L ++ [f]) := fun s hs => by
      rw [List.mem_append, List.mem_singleton]
      exact (HQ2.out.2 s).1 hs
    have HTS : Hid (∀ s, s ∈ L ++ [f] → tuneB s = true ∧ s ∈ Q2) := fun s hs => by
      rw [List.mem_append, List.mem_singleton] at hs
      refine ⟨?_, (HQ2.out.2 s).2 hs⟩
      rcases hs with h | rfl
      · exact HSM.out.tun s h
      · exact HF.out
    clear HI9 HQ2 HX6
    have HSO := sorted_ok w9 _ w6.heap.size (L ++ [f]) (by simp; omega) HIN.out.1
    go_wp2_with fail
    refine HSO.mono ?_
    clear HSO
    rintro e w12 ⟨hb12, u12, Ls, rfl, ho12, hl12, hs12, hm12⟩
    have hlz : Ls.length ≤ 22 := by rw [hl12]; simp; omega
    have HXS : Hid (MvI w w12 bx n2 t2 (curG U R W g) U R (.slice oa L.length oc) L (.slice al g cl) (W.take g)) := HXV.out.below (HIN.out.2.trans (hb12.mono HIN.out.2.size))
    have HLS : Hid (LeS Ls ∧ (∀ s, s ∈ Ls ↔ s ∈ L ++ [f]) ∧ w12.ownsRow w9.heap.size 9 1 u12 Ls.length (strs Ls)) := ⟨hs12, hm12, ho12⟩
    obtain ⟨az, cs, hus, _⟩ := ownsRow_shape ho12
    subst hus
    clear hb12 ho12 hl12 hs12 hm12 HIN HXV
    go_wp2_with fail
    go_loopw [27, 28] (fun v i' wr => ∃ (i : Nat) (O : List ByteArray), i ≤ Ls.length ∧ i' = .int .i64 (i : Int) ∧ O.length ≤ i ∧ Hid (WnI W g Q2 Ls i O) ∧ Below w12.heap.size w12 wr ∧ wr.ownsRow w12.heap.size 9 1 v O.length (strs O)) (fun _ i' _ => Ls.length - (intOf i').toNat)
    case atStart => exact ⟨0, [], by omega, rfl, by simp, ⟨List.Pairwise.nil, fun s => by simp⟩, Below.refl _ _, World.ownsRow_nil _ _ _ _⟩
    case round =>
      obtain ⟨i, O, hi, rfl, hOi, HWN, hb, hown⟩ := hrel
      obtain ⟨fa, fc, hvf, hsf⟩ := ownsRow_shape hown
      subst hvf
      obtain ⟨nO, hnO⟩ : ∃ k, O.length = k := ⟨_, rfl⟩
      rw [hnO] at hown hsf hOi ⊢
      have HNO : Hid (O.length = nO) := hnO
      clear hnO
      have hbs := hb.size
      have HXR : Hid (MvI w wr bx n2 t2 (curG U R W g) U R (.slice oa L.length oc) L (.slice al g cl) (W.take g)) := HXS.out.below hb
      have HB : Hid (Below w12.heap.size w12 wr ∧ wr.ownsRow w12.heap.size 9 1 (.slice fa nO fc) nO (strs O)) := ⟨hb, hown⟩
      by_cases hlt : i < Ls.length
      · obtain ⟨x, hx⟩ : ∃ x, Ls[i]? = some x := ⟨_, List.getElem?_eq_getElem hlt⟩
        have q3 : (i : Int) < (Ls.length : Int) := by omega
        obtain ⟨gs, es, cx⟩ : ∃ gs, az = some ⟨gs, 0, none⟩ ∧ ∀ wj, Below wr.heap.size wr wj → wj.cell? ⟨gs, i, none⟩ = some (.string x) := by
          obtain ⟨ao, co, e, hc⟩ := ownsRow_shape (ownsRow_below HLS.out.2.2 hb)
          injection e with e1 e2 e3
          subst e1
          obtain ⟨gs, e, hg⟩ := hc (by omega)
          have h := (hg i (by omega)).trans (strs_get? hx)
          exact ⟨gs, e, fun wj hj => ((bcell hj).1 gs i (lt_of_cell h)).trans h⟩
        subst es
        have cx0 := cx wr (Below.refl _ _)
        obtain ⟨htx, hxq⟩ := HTS.out x ((HLS.out.2.1 x).1 (List.mem_of_getElem? hx))
        have hx12 := tune_size htx
        obtain ⟨px, hpx⟩ := exists_pl t2 x n2
        obtain ⟨hh1, hh2⟩ := mv_has HQ3.out htx hpx
        have HHS : Hid (∀ wj, Below wr.heap.size wr wj → Calls Try.prog 36 #[.pointer (some ⟨bx, 0, none⟩), .string x] wj fun e w' => e = .returned (.tuple #[.bool (dropOk t2 n2 x px), .int .i64 0]) ∧ w' = wj) := fun wj hj => by
          have := thas_ok wj bx n2 t2 _ x px (HXR.out.below hj).bk (by omega) (by unfold maxLen; omega) hpx
          rw [hh2] at this
          exact this
        generalize dropOk t2 n2 x px = has at HHS hh1
        have HNX : Hid (has = true ↔ x ∈ Q2) := hh1
        have HX : Hid (Ls[i]? = some x) := hx
        clear hh2 hpx hx hown
        have HQX : Hid (x ∈ Q2) := hxq
        have HBE : Hid (behB W g x = true) := by unfold Hid behB; simp [HEG.out]
        clear hh1 hxq
        go_wp2_with fail
        go_quiet (fail)
        obtain ⟨wp, hwp⟩ : ∃ y, y = wr.drewN nq := ⟨_, rfl⟩
        rw [← hwp]
        have hbp : Below wr.heap.size wr wp := by rw [hwp]; exact below_drewN (Below.refl _ _) nq
        clear hwp cx0
        have HH := HHS.out wp hbp
        have cxp := cx wp hbp
        have HBP : Hid (Below w12.heap.size w12 wp ∧ wp.ownsRow w12.heap.size 9 1 (.slice fa nO fc) nO (strs O)) := ⟨HB.out.1.trans (hbp.mono hbs), ownsRow_below HB.out.2 hbp⟩
        have hbsp : w12.heap.size ≤ wp.heap.size := HBP.out.1.size
        have hLST : ∀ m, nO = m + 1 → ∃ g y, fa = some ⟨g, 0, none⟩ ∧ O.getLast? = some y ∧ wp.cell? ⟨g, m, none⟩ = some (.string y) := fun m e => by
          obtain ⟨g, e1, c1⟩ := hsf (by omega)
          have hO := HNO.out
          have h := (c1 m (by omega)).trans (strs_get (show m < O.length by omega))
          exact ⟨g, _, e1, by rw [List.getLast?_eq_getElem?, List.getElem?_eq_getElem (by omega)]; simp only [hO, e, Nat.add_sub_cancel], ((bcell hbp).1 g m (lt_of_cell h)).trans h⟩
        have HSKIP : Hid ((behB W g x = false ∨ x ∉ Q2 ∨ O.getLast? = some x) → WnI W g Q2 Ls (i + 1) O) := fun h => HWN.out.skip HX.out h
        have HADD : Hid (behB W g x = true → x ∈ Q2 → O.getLast? ≠ some x → WnI W g Q2 Ls (i + 1) (O ++ [x])) := fun h1 h2 h3 => HWN.out.add HLS.out.1 HX.out h1 h2 h3
        have HCX : Hid (∀ wj, Below wp.heap.size wp wj → wj.cell? ⟨gs, i, none⟩ = some (.string x)) := fun wj hj => cx wj (hbp.trans (hj.mono hbp.size))
        clear cx hsf hb hbp HHS
        go_wp2_with fail
        refine HH.mono ?_
        clear HH
        rintro e w' ⟨rfl, hw'⟩
        obtain rfl : wp = w' := hw'.symm
        have hhs : has = true := HNX.out.2 HQX.out
        subst hhs
        have HNA : ∀ wj, (∃ q, wj = wp.drewN q) → (wj.alloc (.cells #[.string x] 9)).ownsRow w12.heap.size 9 1 (.slice fa nO fc) nO (strs O) ∧ Below w12.heap.size w12 wj ∧ w12.heap.size ≤ wj.heap.size ∧ wj.cell? ⟨gs, i, none⟩ = some (.string x) := by
          rintro wj ⟨q, rfl⟩
          have hb2 := below_drewN HBP.out.1 q
          exact ⟨(ownsRow_below HBP.out.2 (below_drewN (Below.refl _ _) q)).alloc _, hb2, hb2.size, HCX.out _ (below_drewN (Below.refl _ _) q)⟩
        have HOW : Hid (∀ z, (Value.slice fa nO fc).ownBlock = some z → w12.heap.size ≤ z) := fun z e => (HBP.out.2.lt z e).1
        clear HCX
        cases nO with
        | zero =>
          have HW2 : Hid (WnI W g Q2 Ls (i + 1) (O ++ [x])) := HADD.out HBE.out HQX.out (by rw [List.eq_nil_of_length_eq_zero HNO.out]; simp)
          clear hLST HADD HSKIP
          go_wp2_with fail
          go_quiet (fail)
          obtain ⟨wk, hwk⟩ : ∃ y, y = wp.drewN nq := ⟨_, rfl⟩
          rw [← hwk]
          obtain ⟨hna, hbk, hsk, ck⟩ := HNA wk ⟨nq, hwk⟩
          have HBK : Hid (Below w12.heap.size w12 wk) := hbk
          clear hwk hbk HNA
          go_wp2_with (at_builtin; refine wpList_append_fresh _ rfl _ _ 39 rfl w12.heap.size 9 i0 (.string ByteArray.empty) 1 16 Try.underlying39 hi0 hz0 hz01 hz02 rfl (by decide) _ 0 (strs O) rfl hna ⟨wk.heap.size, 0, none⟩ 1 1 [.string x] rfl rfl (cell_one_new _ _ _) (by intro u hu; simp at hu; subst hu; rfl) (by decide) (by unfold maxLen; omega) (by omega) (by simp; omega) ?_; intro gz kz wz hownz hgrz _; have HOZ : Hid (wz.ownsRow w12.heap.size 9 1 (.slice (some ⟨gz, 0, none⟩) (0 + 1) kz) (0 + 1) (strs O ++ [.string x])) := hownz; have HGZ : Hid ((wk.alloc (.cells #[.string x] 9)).grownBy wz (Value.slice fa 0 fc).ownBlock) := hgrz; clear hownz hgrz hna)
          go_roundw
          case rel =>
            have ho := HOZ.out
            rw [strs_snoc] at ho
            have hO := HNO.out
            refine ⟨i + 1, O ++ [x], by omega, by go_num, by rw [List.length_append, List.length_singleton]; omega, HW2, (HBK.out.alloc hsk _).grown HGZ.out (by simp; omega) (fun z e => HOW.out z e), ?_⟩
            rw [List.length_append, List.length_singleton, hO]
            exact ho
          case measure => simp [intOf]; omega
        | succ m =>
          obtain ⟨gf, y, rfl, hly, cy⟩ := hLST m rfl
          have q6 : ((m : Int) + 1 == 0) = false := by simp; omega
          have hwm2 : IntKind.i64.wrap (m : Int) = (m : Int) := by rw [IntKind.wrap_i64]; omega
          by_cases exy : y = x
          · have q7 : (y.toList == x.toList) = true := by rw [beq_str]; simp [exy]
            have HW2 : Hid (WnI W g Q2 Ls (i + 1) O) := HSKIP.out (.inr (.inr (by rw [hly, exy])))
            clear hLST HADD HSKIP exy hly HNA
            go_wp2_with fail
            go_quiet (fail)
            go_wp2_with fail
            go_roundw
            case rel => exact ⟨i + 1, O, by omega, by go_num, by have := HNO.out; omega, HW2, below_drewN HBP.out.1 nq, by rw [HNO.out]; exact ownsRow_below HBP.out.2 (below_drewN (Below.refl _ _) nq)⟩
            case measure => simp [intOf]; omega
          · have q7 : (y.toList == x.toList) = false := by rw [beq_str]; simp [exy]
            have HW2 : Hid (WnI W g Q2 Ls (i + 1) (O ++ [x])) := HADD.out HBE.out HQX.out (by rw [hly]; intro e; injection e with e; exact exy e)
            clear hLST HADD HSKIP hly
            go_wp2_with fail
            go_quiet (fail)
            obtain ⟨wk, hwk⟩ : ∃ y, y = wp.drewN nq := ⟨_, rfl⟩
            rw [← hwk]
            obtain ⟨hna, hbk, hsk, ck⟩ := HNA wk ⟨nq, hwk⟩
            have HBK : Hid (Below w12.heap.size w12 wk) := hbk
            clear hwk hbk HNA
            go_wp2_with (at_builtin; refine wpList_append_fresh _ rfl _ _ 39 rfl w12.heap.size 9 i0 (.string ByteArray.empty) 1 16 Try.underlying39 hi0 hz0 hz01 hz02 rfl (by decide) _ (m + 1) (strs O) rfl hna ⟨wk.heap.size, 0, none⟩ 1 1 [.string x] rfl rfl (cell_one_new _ _ _) (by intro u hu; simp at hu; subst hu; rfl) (by decide) (by unfold maxLen; omega) (by omega) (by simp; omega) ?_; intro gz kz wz hownz hgrz _; have HOZ : Hid (wz.ownsRow w12.heap.size 9 1 (.slice (some ⟨gz, 0, none⟩) ((m + 1) + 1) kz) ((m + 1) + 1) (strs O ++ [.string x])) := hownz; have HGZ : Hid ((wk.alloc (.cells #[.string x] 9)).grownBy wz (Value.slice (some ⟨gf, 0, none⟩) (m + 1) fc).ownBlock) := hgrz; clear hownz hgrz hna)
            go_roundw
            case rel =>
              have ho := HOZ.out
              rw [strs_snoc] at ho
              have hO := HNO.out
              refine ⟨i + 1, O ++ [x], by omega, by go_num, by rw [List.length_append, List.length_singleton]; omega, HW2, (HBK.out.alloc hsk _).grown HGZ.out (by simp; omega) (fun z e => HOW.out z e), ?_⟩
              rw [List.length_append, List.length_singleton, hO]
              exact ho
            case measure => simp [intOf]; omega
      · have ei : i = Ls.length := by omega
        subst ei
        have q3 : ¬ (Ls.length : Int) < (Ls.length : Int) := by omega
        have HNX := next_moved HXR.out.bk HRO.out HXR.out.tab HWN.out HQ3.out hn3 (fun s hs => (HLS.out.2.1 s).2 (HSUB.out s hs)) HRA.out
        have hO := HNO.out
        rw [hO] at HNX
        have HKS : Hid (∀ wj v, Touch (fun j => j = bx) wr wj → wj.ownsRow wr.heap.size 9 1 v nO (strs O) → (Calls Try.prog 30 #[v, .slice fa nO fc] wj fun e w' => e = .returned (.bool true) ∧ Below wj.heap.size wj w') ∧ Below w.heap.size w wj) := fun wj v hT ho => by
          have h2 := hT.own HB.out.2 (fun g e hg => bx_own HXR.out.bk HB.out.2 e hg)
          rw [← hO] at h2 ho ⊢
          exact ⟨ksame_ok wj v _ _ _ O (by omega) ho h2, hT.below HXR.out.bel HXR.out.bel.size (fun k e => by omega)⟩
        clear hb hown hsf hO
        go_wp2_with fail
        refine HNX.mono ?_
        clear HNX
        rintro e w13 ⟨v13, rfl, ho13, ht13⟩
        obtain ⟨hks, hb13⟩ := HKS.out w13 v13 ht13 ho13
        have HB13 : Hid (Below w.heap.size w w13) := hb13
        clear ho13 ht13 hb13 HKS
        go_wp2_with fail
        refine hks.mono ?_
        clear hks
        rintro e w14 ⟨rfl, hb14⟩
        have HF14 : Hid (Below w.heap.size w w14) := HB13.out.trans (hb14.mono HB13.out.size)
        clear hb14
        go_wp2_with fail
        go_ret
        exact ⟨rfl, HF14.out⟩
end Go.Proofs.Ytpngikmcjkjdaab

namespace Go.Proofs.Ytpngikmcjkjdaab
open Go.RowKit
set_option linter.unusedVariables false
def IsRow (k : IntKind) (w : World) (a : Option Addr) (len cap : Nat) (zs : List Int) : Prop :=
  (a = none ∧ len = 0 ∧ cap = 0 ∧ zs = []) ∨
  ∃ x, a = some x ∧ len ≤ cap ∧ cap ≤ maxLen ∧ zs.length = cap ∧ (∀ i, i < zs.length → w.cell? (x.add i) = some (.int k (zs.getD i 0))) ∧ ∀ n ∈ zs, (Lit.int k n).wf = true
theorem wf_i64 {n : Int} (h : (Lit.int .i64 n).wf = true) : -9223372036854775808 ≤ n ∧ n ≤ 9223372036854775807 := bounds_i64 h
theorem codeAt_of_row {w : World} {a : Option Addr} {len cap : Nat} {zs : List Int} (h : IsRow .i64 w a len cap zs) : CodeAt w a len (fun t => zs.getD t 0) := by
  rcases h with ⟨rfl, rfl, rfl, rfl⟩ | ⟨x, rfl, hl, hm, hz, hc, hw⟩
  · exact ⟨by omega, fun t ht => absurd ht (by omega), fun t ht => absurd ht (by omega)⟩
  · unfold maxLen at hm
    refine ⟨by omega, fun t ht => ?_, fun t ht => ?_⟩
    · obtain ⟨b, off, rfl, hcc⟩ := Go.ints_at hc (by omega)
      exact ⟨b, off, rfl, hcc t (by omega)⟩
    · have : zs.getD t 0 ∈ zs := by
        rw [List.getD_eq_getElem?_getD, List.getElem?_eq_getElem (show t < zs.length by omega)]; exact List.getElem_mem _
      exact wf_i64 (hw _ this)
end Go.Proofs.Ytpngikmcjkjdaab
