import Derived.OpenShut
import Derived.Test.YtpngikmcjkjdaabG15
import Derived.Test.YtpngikmcjkjdaabG6
import Derived.Test.YtpngikmcjkjdaabG7
set_option linter.unusedVariables false
set_option linter.unusedSimpArgs false
namespace Go.Proofs.Ytpngikmcjkjdaab
open Go.RowKit
set_option linter.unusedVariables false
set_option linter.unusedSimpArgs false
def accL (M : Tab) (L : List ByteArray) : List ByteArray := L.filter fun s => M.accepts (notesOf s)
theorem accL_snoc (M : Tab) {L : List ByteArray} {i : Nat} {x : ByteArray} (h : L[i]? = some x) : accL M (L.take (i + 1)) = if M.accepts (notesOf x) = true then accL M (L.take i) ++ [x] else accL M (L.take i) := by
  unfold accL
  rw [List.take_add_one, h, List.filter_append]
  cases e : M.accepts (notesOf x) <;> simp [e]
theorem sorted_eq {L L' : List ByteArray} {t : Nat → ByteArray} {n : Nat} {M : Tab} (h : SameT L t n) (hle : LeS L') (hlen : L'.length = (accL M L).length) (hm : ∀ s, s ∈ L' ↔ s ∈ accL M L) : allW M t n = L' := by
  have hnd : L'.Nodup := nodup_of_len (W := accL M L) (h.nd.filter _) (fun s hs => (hm s).2 hs) (by omega)
  refine srt_unique _ _ (allW_inc M h.srt) ?_ (fun s => ?_)
  · exact (List.Pairwise.and hle hnd).imp (fun {a b} hab => less_tri hab.1 (fun e => hab.2 e.symm))
  · rw [hm, mem_allW]
    unfold accL
    rw [List.mem_filter, h.mem]
theorem accL_all {M : Tab} {L : List ByteArray} (h : ∀ s ∈ L, M.accepts (notesOf s) = true) : accL M L = L := List.filter_eq_self.2 h
structure ChsI (w w' : World) (bx n : Nat) (t : Nat → ByteArray) (va : Value) (L : List ByteArray) (vw : Value) (P : List ByteArray) : Prop where
  bel : Below w.heap.size w w'
  bk : BxAt w' bx t n cur0
  all : w'.ownsRow w.heap.size 9 1 va L.length (strs L)
  wnt : w'.ownsRow w.heap.size 9 1 vw P.length (strs P)
theorem ChsI.below {w w' w2 : World} {bx n : Nat} {t : Nat → ByteArray} {va vw : Value} {L P : List ByteArray} (h : ChsI w w' bx n t va L vw P) (hb : Below w'.heap.size w' w2) : ChsI w w2 bx n t va L vw P :=
  ⟨h.bel.trans (hb.mono h.bel.size), h.bk.below hb, ownsRow_below h.all hb, ownsRow_below h.wnt hb⟩
theorem ChsI.touch {w w' w2 : World} {bx n : Nat} {t : Nat → ByteArray} {va vw : Value} {L P : List ByteArray} (h : ChsI w w' bx n t va L vw P) (hbx : w.heap.size ≤ bx) (hT : Touch (fun j => j = bx) w' w2) (hx : BxAt w2 bx t n cur0) : ChsI w w2 bx n t va L vw P :=
  ⟨hT.below h.bel h.bel.size (fun k e => by omega), hx, hT.own h.all (fun g e hg => bx_own h.bk h.all e hg), hT.own h.wnt (fun g e hg => bx_own h.bk h.wnt e hg)⟩
set_option maxRecDepth 20000 in
set_option maxHeartbeats 4000000 in
theorem chosen_walk (a1 a2 a3 : Option Addr) (l1 l2 l3 c1 c2 c3 : Nat) (z1 z2 z3 : Nat → Int) (w : World) (h1 : CodeAt w a1 l1 z1) (h2 : CodeAt w a2 l2 z2) (h3 : CodeAt w a3 l3 z3) (hlen : l1 ≤ 140737488355328) :
    Calls Try.prog 8 #[.slice a1 l1 c1, .slice a2 l2 c2, .slice a3 l3 c3] w fun e w' => e = .returned (.bool true) ∧ Below w.heap.size w w' := by
  obtain ⟨i0, hi0, hz0, hz01, hz02⟩ := info_parts Try.infoStr
  have HBK := book_ok a1 l1 c1 5 z1 w h1 hlen (by omega)
  rw [show ((5 : Nat) : Int) = 5 from rfl] at HBK
  have H3 : Hid (CodeAt w a3 l3 z3) := h3
  clear h1 h3
  go_enter Try.func8, Try.ntmps8
  go_wp2_with fail
  refine HBK.mono ?_
  clear HBK
  rintro e w1 ⟨hb1, bx, va, L, t, n, rfl, hbx, hx1, ho1, hsm, hL⟩
  have HSM : Hid (SameT L t n) := hsm
  have HX1 : Hid (ChsI w w1 bx n t va L (.slice none 0 0) []) := ⟨hb1, hx1, ho1, World.ownsRow_nil _ _ _ _⟩
  obtain ⟨oa, oc, hva, _⟩ := ownsRow_shape ho1
  subst hva
  have HTB := table_ok a2 l2 c2 z2 w1 (h2.below hb1)
  have hM := codeTab_ok l2 z2
  generalize codeTab l2 z2 = M at HTB hM
  have HM : Hid M.Ok := hM
  clear hb1 hx1 ho1 hsm h2 hM
  go_wp2_with fail
  refine HTB.mono ?_
  clear HTB
  rintro e w2 ⟨V, rfl, hV, hb2⟩
  obtain ⟨W2, hW2⟩ : ∃ W, W = w2.alloc (.cells #[.slice (some ⟨V.ba, V.oa, none⟩) M.n V.ca, .slice (some ⟨V.bn, V.on, none⟩) M.n V.cn] 30) := ⟨_, rfl⟩
  have HBX : Hid (BoxK W2 w2.heap.size V M) := by unfold Hid; rw [hW2]; exact BoxK.new hV
  have HX2 : Hid (ChsI w W2 bx n t (.slice oa L.length oc) L (.slice none 0 0) []) := HX1.out.below (by rw [hW2]; exact hb2.alloc hb2.size _)
  clear hV hb2 HX1
  go_upto_region 5 with fail
  rw [← hW2]
  clear hW2
  generalize w2.heap.size = p1 at *
  go_wp2_with fail
  go_loopw [11, 12] (fun v i' wr => ∃ i : Nat, i ≤ L.length ∧ i' = .int .i64 (i : Int) ∧ Below W2.heap.size W2 wr ∧ wr.ownsRow W2.heap.size 9 1 v (accL M (L.take i)).length (strs (accL M (L.take i)))) (fun _ i' _ => L.length - (intOf i').toNat)
  case atStart => exact ⟨0, by omega, rfl, Below.refl _ _, World.ownsRow_nil _ _ _ _⟩
  case round =>
    obtain ⟨i, hi, rfl, hb, hown⟩ := hrel
    obtain ⟨fa, fc, hvf, _⟩ := ownsRow_shape hown
    subst hvf
    have hbs := hb.size
    have HB : Hid (Below W2.heap.size W2 wr) := hb
    have HBR := HBX.out.below hb
    have HOW : Hid (wr.ownsRow W2.heap.size 9 1 (.slice fa (accL M (L.take i)).length fc) (accL M (L.take i)).length (strs (accL M (L.take i)))) := hown
    have HXR : Hid (ChsI w wr bx n t (.slice oa L.length oc) L (.slice fa (accL M (L.take i)).length fc) (accL M (L.take i))) := by
      have := HX2.out.below hb
      exact ⟨this.bel, this.bk, this.all, own_from hown HX2.out.bel.size⟩
    have hpl : (accL M (L.take i)).length ≤ 20 := by
      refine Nat.le_trans (List.length_filter_le _ _) ?_
      rw [List.length_take]; omega
    obtain ⟨x0, x1, _, _⟩ := cell_two HBR.blk
    by_cases hlt : i < L.length
    · obtain ⟨x, hx⟩ : ∃ x, L[i]? = some x := ⟨_, List.getElem?_eq_getElem hlt⟩
      have cI : ∀ wj, Below wr.heap.size wr wj → ∃ g, oa = some ⟨g, 0, none⟩ ∧ wj.cell? ⟨g, i, none⟩ = some (.string x) := fun wj hj => by
        obtain ⟨ao, co, e, hc⟩ := ownsRow_shape (HXR.out.below hj).all
        injection e with e1 e2 e3
        subst e1
        obtain ⟨g, e, hg⟩ := hc (by omega)
        exact ⟨g, e, (hg i (by omega)).trans (strs_get? hx)⟩
      obtain ⟨g, rfl, ce⟩ := cI wr (Below.refl _ _)
      have hxm : x ∈ L := List.mem_of_getElem? hx
      have htx := HSM.out.tun x hxm
      have hT : IsText x ∧ x.size ≤ 1000 := by
        unfold tuneB at htx
        rw [Bool.and_eq_true, decide_eq_true_eq] at htx
        exact ⟨(textTo_isText x).1 htx.2, by omega⟩
      have HR := run_ok V M x wr.drew HM.out (HBR.tab.below (Below.refl _ _).drew) hT.1 hT.2
      have HNX : Hid (accL M (L.take (i + 1)) = if M.accepts (notesOf x) = true then accL M (L.take i) ++ [x] else accL M (L.take i)) := accL_snoc M hx
      obtain ⟨bb, HBB⟩ : ∃ y, Hid (M.accepts (notesOf x) = y) := ⟨_, rfl⟩
      rw [HBB.out] at HR HNX
      have q1 : (i : Int) < (L.length : Int) := by omega
      clear htx hT hxm HBB hb hown HBR
      go_wp2_with fail
      go_region_with (go_at_call 20; refine HR.mono ?_; rintro e wk ⟨rfl, hbk⟩; have HBK : Hid (Below wr.heap.size wr wk) := (Below.refl _ _).drew.trans hbk; clear hbk)
      all_goals
        have hsk := HBK.out.size
        obtain ⟨g2, eg, ce2⟩ := cI wk HBK.out
        injection eg with eg
        injection eg with eg
        subst eg
        have HOK : Hid (Below W2.heap.size W2 wk ∧ wk.ownsRow W2.heap.size 9 1 (.slice fa (accL M (L.take i)).length fc) (accL M (L.take i)).length (strs (accL M (L.take i)))) := ⟨HB.out.trans (HBK.out.mono hbs), ownsRow_below HOW.out HBK.out⟩
        clear cI x0 x1 HR ce
        cases bb with
        | false =>
          go_wp2_with fail
          go_roundw
          case rel => exact ⟨i + 1, by omega, by go_num, HOK.out.1, by rw [HNX.out]; exact HOK.out.2⟩
          case measure => simp [intOf]; omega
        | true =>
          have hna := HOK.out.2.alloc (.cells #[.string x] 9)
          have HOY : Hid (∀ y, (Value.slice fa (accL M (L.take i)).length fc).ownBlock = some y → W2.heap.size ≤ y) := fun y e => (HOK.out.2.lt y e).1
          go_wp2_with (at_builtin; refine wpList_append_fresh _ rfl _ _ 39 rfl W2.heap.size 9 i0 (.string ByteArray.empty) 1 16 Try.underlying39 hi0 hz0 hz01 hz02 rfl (by decide) _ (accL M (L.take i)).length (strs (accL M (L.take i))) rfl hna ⟨wk.heap.size, 0, none⟩ 1 1 [.string x] rfl rfl (cell_one_new _ _ _) (by intro u hu; simp at hu; subst hu; rfl) (by decide) (by unfold maxLen; omega) (by omega) (by simp; omega) ?_; intro g' cap' w3 hown3 hgr hfr; have HO3 : Hid _ := hown3; have HG3 : Hid _ := hgr; clear hown3 hgr hfr)
          go_roundw
          case rel =>
            refine ⟨i + 1, by omega, by go_num, (HOK.out.1.alloc (by omega) _).grown HG3.out (by simp; omega) (fun y e => HOY.out y e), ?_⟩
            have ho := HO3.out
            rw [strs_snoc] at ho
            rw [HNX.out, if_pos rfl, List.length_append, List.length_singleton]
            exact ho
          case measure => simp [intOf]; omega
    · have ei : i = L.length := by omega
      subst ei
      rw [List.take_length] at HXR hpl ⊢
      have q1 : ¬ (L.length : Int) < (L.length : Int) := by omega
      have hn60 : n ≤ 60 := by have := HSM.out.len; omega
      have htun : ∀ j, j < n → tuneB (t j) = true := fun j hj => HSM.out.tun _ ((HSM.out.mem _).2 ⟨j, hj, rfl⟩)
      have HNE : Hid (0 < l3 → ∀ b, a3 = some b → b.block ≠ bx) := fun h0 b e => by
        obtain ⟨b', o, e2, hc⟩ := H3.out.cell 0 h0
        have := lt_of_cell hc
        rw [e] at e2
        injection e2 with e2
        subst e2
        simp only
        omega
      have HTN : Hid (∀ j, j < n → tuneB (t j) = true) := htun
      have HDR := drawn_ok V M wr bx n t a3 l3 c3 z3 (H3.out.below HXR.out.bel) HM.out HBR.tab HXR.out.bk HSM.out.srt hn60 htun HNE.out
      clear hb hown HBR htun
      go_wp2_with fail
      refine HDR.mono ?_
      clear HDR
      rintro e w5 ⟨v5, rfl, ho5, hx5, ht5⟩
      have HX5 : Hid (ChsI w w5 bx n t (.slice oa L.length oc) L (.slice fa (accL M L).length fc) (accL M L)) := HXR.out.touch hbx ht5 hx5
      have HO5 : Hid (w5.ownsRow w.heap.size 9 1 v5 (allW M t n).length (strs (allW M t n))) := own_from ho5 HXR.out.bel.size
      clear ho5 hx5 ht5 HXR
      obtain ⟨LA, ca, hLA⟩ := comp_any
      have HLA : Hid (∀ x, LA x = true) := hLA
      have HC := ca w5
      clear ca hLA x0 x1
      go_wp2_with fail
      refine HC.mono ?_
      clear HC
      rintro e w6 ⟨hb6, R, V6, hR, hRd, rfl, hT6, _⟩
      obtain ⟨W6, hW6⟩ : ∃ W, W = w6.alloc (.cells #[.slice (some ⟨V6.ba, V6.oa, none⟩) R.n V6.ca, .slice (some ⟨V6.bn, V6.on, none⟩) R.n V6.cn] 30) := ⟨_, rfl⟩
      have HBX6 : BoxK W6 w6.heap.size V6 R := by rw [hW6]; exact BoxK.new hT6
      have D6 : Below w5.heap.size w5 W6 := by rw [hW6]; exact hb6.alloc hb6.size _
      have HX6 : Hid (ChsI w W6 bx n t (.slice oa L.length oc) L (.slice fa (accL M L).length fc) (accL M L)) := HX5.out.below D6
      have HO6 : Hid (W6.ownsRow w.heap.size 9 1 v5 (allW M t n).length (strs (allW M t n))) := ownsRow_below HO5.out D6
      have HRA : Hid (accL R L = L) := accL_all (fun s hs => by
        have htx := HSM.out.tun s hs
        unfold tuneB at htx
        rw [Bool.and_eq_true, decide_eq_true_eq] at htx
        rw [hR.lang _ (notes_of ((textTo_isText s).1 htx.2)), HLA.out])
      have hRok := hR.isOk hRd
      clear hT6 hb6 HX5 HO5 D6
      go_upto_region 16 with fail
      rw [← hW6]
      clear hW6
      obtain ⟨x0, x1, _, _⟩ := cell_two HBX6.blk
      generalize w6.heap.size = p6 at *
      have HDR := drawn_ok V6 R W6 bx n t a3 l3 c3 z3 (H3.out.below HX6.out.bel) hRok HBX6.tab HX6.out.bk HSM.out.srt hn60 HTN.out HNE.out
      clear HBX6 hR
      go_wp2_with fail
      refine HDR.mono ?_
      clear HDR
      rintro e w7 ⟨v7, rfl, ho7, hx7, ht7⟩
      have HX7 : Hid (ChsI w w7 bx n t (.slice oa L.length oc) L (.slice fa (accL M L).length fc) (accL M L)) := HX6.out.touch hbx ht7 hx7
      have HO7 : Hid (w7.ownsRow w.heap.size 9 1 v7 (allW R t n).length (strs (allW R t n)) ∧ w7.ownsRow w.heap.size 9 1 v5 (allW M t n).length (strs (allW M t n))) := ⟨own_from ho7 HX6.out.bel.size, ht7.own HO6.out (fun g e hg => bx_own HX6.out.bk HO6.out e hg)⟩
      clear ho7 hx7 ht7 HX6 HO6 x0 x1
      have HS1 := sorted_ok w7 _ w.heap.size (accL M L) (by omega) HX7.out.wnt
      go_wp2_with fail
      refine HS1.mono ?_
      clear HS1
      rintro e w8 ⟨hb8, u8, L8, rfl, ho8, hl8, hs8, hm8⟩
      have e8 : allW M t n = L8 := sorted_eq HSM.out hs8 hl8 hm8
      have HX8 : Hid (ChsI w w8 bx n t (.slice oa L.length oc) L (.slice fa (accL M L).length fc) (accL M L)) := HX7.out.below hb8
      have HO8 : Hid (w8.ownsRow w.heap.size 9 1 v7 (allW R t n).length (strs (allW R t n))) := ownsRow_below HO7.out.1 hb8
      have HC8 := ownsRow_below HO7.out.2 hb8
      rw [e8] at HC8
      have HK1 := ksame_ok w8 v5 u8 _ _ L8 (by omega) HC8 ho8
      clear hb8 ho8 hs8 hm8 e8 HC8 HX7 HO7
      go_wp2_with fail
      refine HK1.mono ?_
      clear HK1
      rintro e w9 ⟨rfl, hb9⟩
      have HX9 : Hid (ChsI w w9 bx n t (.slice oa L.length oc) L (.slice fa (accL M L).length fc) (accL M L)) := HX8.out.below hb9
      have HO9 : Hid (w9.ownsRow w.heap.size 9 1 v7 (allW R t n).length (strs (allW R t n))) := ownsRow_below HO8.out hb9
      have HS2 := sorted_ok w9 _ w.heap.size L (by omega) HX9.out.all
      clear hb9 HX8 HO8
      go_wp2_with fail
      refine HS2.mono ?_
      clear HS2
      rintro e w10 ⟨hb10, u10, L10, rfl, ho10, hl10, hs10, hm10⟩
      have e10 : allW R t n = L10 := sorted_eq HSM.out hs10 (by rw [HRA.out]; exact hl10) (by rw [HRA.out]; exact hm10)
      have HC10 := ownsRow_below HO9.out hb10
      rw [e10] at HC10
      have HK2 := ksame_ok w10 v7 u10 _ _ L10 (by omega) HC10 ho10
      have HX10 : Hid (Below w.heap.size w w10) := (HX9.out.below hb10).bel
      clear hb10 ho10 hs10 hm10 e10 HC10 HX9 HO9
      go_wp2_with fail
      refine HK2.mono ?_
      clear HK2
      rintro e w11 ⟨rfl, hb11⟩
      have HF : Hid (Below w.heap.size w w11) := HX10.out.trans (hb11.mono HX10.out.size)
      clear hb11 HX10
      go_wp2_with fail
      go_ret
      exact ⟨rfl, HF.out⟩
end Go.Proofs.Ytpngikmcjkjdaab

namespace Go.Proofs.Ytpngikmcjkjdaab
open Go.RowKit
set_option linter.unusedVariables false
def IsRow (k : IntKind) (w : World) (a : Option Addr) (len cap : Nat) (zs : List Int) : Prop :=
  (a = none ∧ len = 0 ∧ cap = 0 ∧ zs = []) ∨
  ∃ x, a = some x ∧ len ≤ cap ∧ cap ≤ maxLen ∧ zs.length = cap ∧ (∀ i, i < zs.length → w.cell? (x.add i) = some (.int k (zs.getD i 0))) ∧ ∀ n ∈ zs, (Lit.int k n).wf = true
theorem wf_i64 {n : Int} (h : (Lit.int .i64 n).wf = true) : -9223372036854775808 ≤ n ∧ n ≤ 9223372036854775807 := bounds_i64 h
theorem codeAt_of_row {w : World} {a : Option Addr} {len cap : Nat} {zs : List Int} (h : IsRow .i64 w a len cap zs) : CodeAt w a len (fun t => zs.getD t 0) := by
  rcases h with ⟨rfl, rfl, rfl, rfl⟩ | ⟨x, rfl, hl, hm, hz, hc, hw⟩
  · exact ⟨by omega, fun t ht => absurd ht (by omega), fun t ht => absurd ht (by omega)⟩
  · unfold maxLen at hm
    refine ⟨by omega, fun t ht => ?_, fun t ht => ?_⟩
    · obtain ⟨b, off, rfl, hcc⟩ := Go.ints_at hc (by omega)
      exact ⟨b, off, rfl, hcc t (by omega)⟩
    · have : zs.getD t 0 ∈ zs := by
        rw [List.getD_eq_getElem?_getD, List.getElem?_eq_getElem (show t < zs.length by omega)]; exact List.getElem_mem _
      exact wf_i64 (hw _ this)
end Go.Proofs.Ytpngikmcjkjdaab
