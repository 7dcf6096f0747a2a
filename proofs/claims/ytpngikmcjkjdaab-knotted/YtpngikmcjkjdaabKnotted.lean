import Derived.Test.YtpngikmcjkjdaabKnotW
import Derived.Deep.RegionLaw
import Derived.Deep.AppendLies
namespace Go.Proofs.Ytpngikmcjkjdaab
open Go.RowKit
set_option linter.unusedVariables false
set_option linter.unusedSimpArgs false

set_option maxRecDepth 20000 in
set_option maxHeartbeats 8000000 in
theorem knotted_walk (ao : Option Addr) (len cap : Nat) (z : Nat → Int) (away : Int) (w : World) (h : CodeAt w ao len z) (hlen : len ≤ 140737488355328) (ha1 : -9223372036854775808 ≤ away) (ha2 : away ≤ 9223372036854775807) :
    Calls Try.prog 7 #[.slice ao len cap, .int .i64 away] w fun e w' => e = .returned (.bool true) ∧ Below w.heap.size w w' := by
  obtain ⟨i0, hi0, hz0, hz01, hz02⟩ := info_parts Try.infoS
  have HBK := book_ok ao len cap 12 z w h hlen (by omega)
  rw [show ((12 : Nat) : Int) = 12 from rfl] at HBK
  clear h
  go_enter Try.func7, Try.ntmps7
  go_wp2_with (go_at_call 24; refine HBK.mono ?_; rintro e w1 ⟨hb1, bx, va, L, t1, n1, rfl, hbx, hx1, ho1, hsm1, hL⟩; have HB1 : Hid (Below w.heap.size w w1) := hb1; have HX1 : Hid (BxAt w1 bx t1 n1 cur0) := hx1; have HO1 : Hid (w1.ownsRow w.heap.size 9 1 va L.length (strs L)) := ho1; have HSM1 : Hid (SameT L t1 n1) := hsm1; clear hb1 hx1 ho1 hsm1)
  obtain ⟨oa, oc, hva, hsh⟩ := ownsRow_shape HO1.out
  subst hva
  go_loopw [8, 9] (fun v i' wr => ∃ (i : Nat) (Lf : List ByteArray) (t : Nat → ByteArray) (n : Nat), i ≤ L.length ∧ i' = .int .i64 (i : Int) ∧ Below w.heap.size w wr ∧ BxAt wr bx t n cur0 ∧ wr.ownsRow w.heap.size 9 1 (.slice oa L.length oc) L.length (strs L) ∧ wr.ownsRow w.heap.size 9 1 v Lf.length (strs Lf) ∧ (∀ g, v.ownBlock = some g → (Value.slice oa L.length oc).ownBlock ≠ some g) ∧ SameT (Lf ++ L.drop i) t n ∧ Lf.length ≤ i) (fun _ i' _ => L.length - (intOf i').toNat)
  case atStart => exact ⟨0, [], t1, n1, by omega, rfl, HB1.out, HX1.out, HO1.out, World.ownsRow_nil _ _ _ _, fun g e => by simp [Value.ownBlock] at e, by simpa using HSM1.out, by simp⟩
  case round =>
    obtain ⟨i, Lf, t, n, hi, rfl, hb, hx, hoA, hoL, hdis, hsm, hlf⟩ := hrel
    obtain ⟨fa, fc, hvf, hshf⟩ := ownsRow_shape hoL
    subst hvf
    have hbs := hb.size
    have HB : Hid (Below w.heap.size w wr) := hb
    have HX : Hid (BxAt wr bx t n cur0) := hx
    have HOA : Hid (wr.ownsRow w.heap.size 9 1 (.slice oa L.length oc) L.length (strs L)) := hoA
    have HOL : Hid (wr.ownsRow w.heap.size 9 1 (.slice fa Lf.length fc) Lf.length (strs Lf)) := hoL
    have HSM : Hid (SameT (Lf ++ L.drop i) t n) := hsm
    by_cases hlt : i < L.length
    · obtain ⟨x, HXX⟩ : ∃ x, Hid (L[i] = x) := ⟨L[i], by unfold Hid; rfl⟩
      obtain ⟨g, rfl, hce⟩ := hsh (by omega)
      have cI : wr.cell? ⟨g, i, none⟩ = some (.string x) := by
        rw [← HXX.out]
        exact (hoA.cellAt i (by omega)).trans (strs_get hlt)
      have q1 : (i : Int) < (L.length : Int) := by omega
      obtain ⟨pv, HPV⟩ : ∃ y, Hid (pickN away 1099511627776 = y) := ⟨_, rfl⟩
      have hpv : pv < 1099511627776 := by rw [← HPV.out]; exact pickN_lt _ _ (by omega)
      have HPK := pick_any away 1099511627776 wr (by omega) (by omega) ha1 ha2
      rw [show (1099511627776 : Int).toNat = 1099511627776 from rfl, HPV.out] at HPK
      have hdr : L.drop i = x :: L.drop (i + 1) := by rw [List.drop_eq_getElem_cons hlt, HXX.out]
      have hgb := hoA.lt g rfl
      have hgx : g ≠ bx := bx_own hx hoA rfl
      cases hbit : (bits BinOp.and IntKind.i64 ((pv : Int) / 2 ^ i) 1 == 0) with
      | true =>
        have hna := hoL.alloc (.cells #[.string x] 9)
        have HOW : Hid (∀ y, (Value.slice fa Lf.length fc).ownBlock = some y → w.heap.size ≤ y ∧ y < wr.heap.size ∧ y ≠ g ∧ y ≠ bx) := fun y e => ⟨(hoL.lt y e).1, (hoL.lt y e).2, fun e' => hdis y e (by rw [e']; rfl), bx_own hx hoL e⟩
        have HSM2 : Hid (SameT ((Lf ++ [x]) ++ L.drop (i + 1)) t n) := by unfold Hid; rw [List.append_assoc, List.singleton_append, ← hdr]; exact hsm
        have hbxl := World.rowIs.lt hx
        clear hb hx hoA hoL hsm hshf hsh hdr hdis
        go_wp2_with (first
          | (go_at_call 17; refine HPK.mono ?_; rintro e w2 ⟨rfl, hw2⟩; obtain rfl : wr = w2 := hw2.symm)
          | (at_builtin; refine wpList_append_fresh _ rfl _ _ 39 rfl w.heap.size 9 i0 (.string ByteArray.empty) 1 16 Try.underlying39 hi0 hz0 hz01 hz02 rfl (by decide) _ Lf.length (strs Lf) rfl hna ⟨wr.heap.size, 0, none⟩ 1 1 [.string x] rfl rfl (cell_one_new _ _ _) (by intro u hu; simp at hu; subst hu; rfl) (by decide) (by unfold maxLen; omega) (by omega) (by simp; omega) ?_; intro g' cap' w3 hown3 hgr hfr; have HO3 : Hid (w3.ownsRow w.heap.size 9 1 (.slice (some ⟨g', 0, none⟩) (Lf.length + 1) cap') (Lf.length + 1) (strs Lf ++ [.string x])) := hown3; have HG3 : Hid ((wr.alloc (.cells #[.string x] 9)).grownBy w3 (Value.slice fa Lf.length fc).ownBlock) := hgr; have HF3 : Hid ((Value.slice fa Lf.length fc).ownBlock = some g' ∨ g' = (wr.alloc (.cells #[.string x] 9)).heap.size) := hfr; clear hown3 hgr hfr))
        go_roundw
        case rel =>
          have ho := HO3.out
          rw [strs_snoc] at ho
          have hblk : ∀ k, k < wr.heap.size → (Value.slice fa Lf.length fc).ownBlock ≠ some k → w3.heap[k]? = wr.heap[k]? := fun k hk hne => (HG3.out.block k (by simp; omega) (fun e => hne e.symm)).trans (Below.heap_alloc wr _ k hk)
          refine ⟨i + 1, Lf ++ [x], t, n, by omega, by go_num, (HB.out.alloc (by omega) _).grown HG3.out (by simp; omega) (fun y e => (HOW.out y e).1), World.rowIs.of_block HX.out (hblk bx hbxl (fun e => (HOW.out bx e).2.2.2 rfl)), ?_, by rw [List.length_append, List.length_singleton]; exact ho, ?_, HSM2.out, by rw [List.length_append, List.length_singleton]; omega⟩
          · refine ⟨HOA.out.1, ?_⟩
            rcases HOA.out.2 with ⟨e1, e2⟩ | ⟨g2, cap2, cur, e1, r1, r2, r3⟩
            · exact .inl ⟨e1, e2⟩
            · refine .inr ⟨g2, cap2, cur, e1, r1, ?_, r3⟩
              injection e1 with e1
              injection e1 with e1
              injection e1 with e1
              subst e1
              rw [hblk g hgb.2 (fun e => (HOW.out g e).2.2.1 rfl)]
              exact r2
          · intro y e e'
            simp only [Value.ownBlock, Option.some.injEq] at e e'
            subst e
            subst e'
            rcases HF3.out with hf | hf
            · exact (HOW.out g hf).2.2.1 rfl
            · simp at hf; omega
        case measure => simp [intOf]; omega
      | false =>
        obtain ⟨p, hp⟩ := exists_pl t x n
        have hsm' : SameT (Lf ++ x :: L.drop (i + 1)) t n := by rw [← hdr]; exact hsm
        obtain ⟨hst, hsm2⟩ := hsm'.drop hp
        have htu : tuneB x = true := hsm'.tun x (by simp)
        have hxs : x.size ≤ maxLen := by simp [tuneB] at htu; unfold maxLen; omega
        have hn60 : n ≤ 60 := by have := hsm'.len; simp at this; omega
        obtain ⟨p2, hp2⟩ := exists_pl (del t p) x (n - 1)
        have hns2 : ¬ (p2 < n - 1 ∧ del t p p2 = x) := fun hh => by
          have hm2 := (hsm2.mem x).2 ⟨p2, hh⟩
          have := (List.perm_middle (a := x) (l₁ := Lf) (l₂ := L.drop (i + 1))).nodup_iff.1 hsm'.nd
          exact (List.nodup_cons.1 this).1 hm2
        have e1 : dropOk t n x p = true := by simp [dropOk, htu, hst]
        have e2 : dropErr x = 0 := by simp [dropErr, htu]
        have e3 : dropOk (del t p) (n - 1) x p2 = false := by simp only [dropOk, htu, hns2, decide_false, Bool.and_false]
        have HD1 := tdrop_ok wr bx n t cur0 x p hx hn60 hxs hp
        rw [dropT, dropN, e1, e2] at HD1
        have HD2 := fun w2 (h2 : BxAt w2 bx (del t p) (n - 1) cur0) => tdrop_ok w2 bx (n - 1) (del t p) cur0 x p2 h2 (by omega) hxs hp2
        simp only [dropT, dropN, e3, e2] at HD2
        have HC2 : ∀ w2, Touch (fun k => k = bx) wr w2 → w2.cell? ⟨g, i, none⟩ = some (.string x) := fun w2 ht => (World.cell?_of_block (a := ⟨g, i, none⟩) (ht.block g hgb.2 hgx)).trans cI
        have HSM2 : Hid (SameT (Lf ++ L.drop (i + 1)) (del t p) (n - 1)) := hsm2
        have HKP : Hid (∀ w2, Touch (fun k => k = bx) wr w2 → Below w.heap.size w w2 ∧ w2.ownsRow w.heap.size 9 1 (.slice (some ⟨g, 0, none⟩) L.length oc) L.length (strs L) ∧ w2.ownsRow w.heap.size 9 1 (.slice fa Lf.length fc) Lf.length (strs Lf)) := fun w2 ht => ⟨ht.below hb (by omega) (fun k e => by omega), ht.own hoA (fun y e hy => bx_own hx hoA e hy), ht.own hoL (fun y e hy => bx_own hx hoL e hy)⟩
        have HDIS : Hid (∀ y, (Value.slice fa Lf.length fc).ownBlock = some y → (Value.slice (some ⟨g, 0, none⟩) L.length oc).ownBlock ≠ some y) := hdis
        clear hb hx hoA hoL hsm hshf hsh hdr hdis hsm' hsm2 htu hst hns2 hp hp2 e1 e2 e3
        go_wp2_with (first
          | (go_at_call 17; refine HPK.mono ?_; rintro e w2 ⟨rfl, hw2⟩; obtain rfl : wr = w2 := hw2.symm)
          | (go_at_call 25; refine HD1.mono ?_; rintro e w2 ⟨rfl, hx2, ht2⟩; have HD3 := HD2 w2 hx2; have c2 := HC2 w2 ht2; have HT2 : Hid (Touch (fun k => k = bx) wr w2) := ht2; clear HD1 HD2 HC2 hx2 ht2)
          | (go_at_call 25; refine HD3.mono ?_; rintro e w3 ⟨rfl, hx3, ht3⟩; have HX3 : Hid (BxAt w3 bx (del t p) (n - 1) cur0) := hx3; have HT3 : Hid (Touch (fun k => k = bx) w2 w3) := ht3; clear HD3 hx3 ht3))
        go_roundw
        case rel =>
          have hT : Touch (fun k => k = bx) wr w3 := ⟨HT3.out.os.trans HT2.out.os, HT3.out.tape.trans HT2.out.tape, HT3.out.output.trans HT2.out.output, Nat.le_trans HT2.out.size HT3.out.size, fun k hk hs => (HT3.out.block k (Nat.lt_of_lt_of_le hk HT2.out.size) hs).trans (HT2.out.block k hk hs)⟩
          obtain ⟨k1, k2, k3⟩ := HKP.out w3 hT
          exact ⟨i + 1, Lf, del t p, n - 1, by omega, by go_num, k1, HX3.out, k2, k3, HDIS.out, HSM2.out, by omega⟩
        case measure => simp [intOf]; omega
    · have q1 : ¬ (i : Int) < (L.length : Int) := by omega
      have hsmF : SameT Lf t n := by
        have : L.drop i = [] := List.drop_eq_nil_of_le (by omega)
        rw [this, List.append_nil] at hsm
        exact hsm
      have HSF : Hid (SameT Lf t n) := hsmF
      have hlf20 : Lf.length ≤ 20 := by omega
      have hcF : ∀ wj, Below wr.heap.size wr wj → ∀ k y, Lf[k]? = some y → ∃ g, fa = some ⟨g, 0, none⟩ ∧ wj.cell? ⟨g, k, none⟩ = some (.string y) := fun wj hbj k y hy => by
        have hk := (List.getElem?_eq_some_iff.1 hy).1
        obtain ⟨g, e1, c1⟩ := hshf (by omega)
        have := (c1 k (by omega)).trans (strs_get? hy)
        exact ⟨g, e1, ((bcell hbj).1 g k (lt_of_cell this)).trans this⟩
      have HTZ : Hid (∀ y ∈ Lf, y.size ≤ 12) := fun y hy => by have := hsmF.tun y hy; simp [tuneB] at this; exact this.1
      have e : i = L.length := by omega
      clear hb hx hoA hoL hsm hshf hsh hdis hsmF HSM HSM1 HO1 HX1 HB1
      go_wp2_with fail
      go_loopw [14, 15] (fun v i' wi => ∃ (j : Nat) (Wt : List ByteArray), j ≤ Lf.length ∧ i' = .int .i64 (j : Int) ∧ Below wr.heap.size wr wi ∧ wi.ownsRow wr.heap.size 9 1 v Wt.length (strs Wt) ∧ (∀ s, s ∈ Wt ↔ WantM Lf j 0 s) ∧ Wt.length ≤ 1 + 21 * j) (fun _ i' _ => Lf.length - (intOf i').toNat)
      case atStart =>
        refine ⟨0, [ByteArray.empty], by omega, rfl, (Below.refl _ _).alloc (Nat.le_refl _) _, ⟨by simp [strs], .inr ⟨_, _, _, rfl, Nat.le_refl _, heap_at_new rfl, by simp, by unfold maxLen; omega, by simp, by simp [strs]; rfl⟩⟩, fun s => ?_, by simp⟩
        rw [List.mem_singleton]
        constructor
        · exact .inl
        · rintro (h' | ⟨a, b, x, y, _, _, _, h', _⟩)
          · exact h'
          · omega
      case round =>
        obtain ⟨j, Wt, hj, rfl, hbi, howt, hmw, hlw⟩ := hrel
        rename World => wi
        have HBI : Hid (Below wr.heap.size wr wi) := hbi
        have HOWT : Hid (wi.ownsRow wr.heap.size 9 1 u14 Wt.length (strs Wt)) := howt
        have HMW : Hid (∀ s, s ∈ Wt ↔ WantM Lf j 0 s) := hmw
        clear hbi howt hmw
        by_cases hjl : j < Lf.length
        · have q2 : (j : Int) < (Lf.length : Int) := by omega
          go_wp2_with fail
          go_loopw [14, 16] (fun v k' wk => ∃ (k : Nat) (Wk : List ByteArray), k ≤ j + 1 ∧ k' = .int .i64 (k : Int) ∧ Below wr.heap.size wr wk ∧ wk.ownsRow wr.heap.size 9 1 v Wk.length (strs Wk) ∧ (∀ s, s ∈ Wk ↔ WantM Lf j k s) ∧ Wk.length ≤ 1 + 21 * j + k) (fun _ k' _ => j + 1 - (intOf k').toNat)
          case atStart => exact ⟨0, Wt, by omega, rfl, HBI.out, HOWT.out, HMW.out, by omega⟩
          case round =>
            obtain ⟨k, Wk, hk, rfl, hbk, howk, hmk, hlk⟩ := hrel
            rename World => wk
            have hbsk := hbk.size
            have HBK2 : Hid (Below wr.heap.size wr wk) := hbk
            have HOWK : Hid (wk.ownsRow wr.heap.size 9 1 u14 Wk.length (strs Wk)) := howk
            have HMK : Hid (∀ s, s ∈ Wk ↔ WantM Lf j k s) := hmk
            by_cases hkj : k ≤ j
            · obtain ⟨x, hxj⟩ : ∃ x, Lf[j]? = some x := ⟨_, List.getElem?_eq_getElem hjl⟩
              obtain ⟨y, hyk⟩ : ∃ y, Lf[k]? = some y := ⟨_, List.getElem?_eq_getElem (by omega)⟩
              obtain ⟨gf, rfl, c1⟩ := hcF wk hbk j x hxj
              obtain ⟨gf2, eg, c2⟩ := hcF wk hbk k y hyk
              injection eg with eg
              injection eg with eg
              subst eg
              have q3 : (k : Int) ≤ (j : Int) := by omega
              have q4 : (k : Int) < (Lf.length : Int) := by omega
              have zx := HTZ.out x (List.mem_of_getElem? hxj)
              have zy := HTZ.out y (List.mem_of_getElem? hyk)
              have HBG := kbegin_ok x y wk.drew (by unfold maxLen; omega) (by unfold maxLen; omega)
              have HSTEP : Hid (∀ s, s ∈ Wk ++ [begins x y] ↔ WantM Lf j (k + 1) s) := fun s => by rw [wantM_step hxj hyk hkj, List.mem_append, hmk s, List.mem_singleton]
              obtain ⟨bg, HBGE⟩ : ∃ b, Hid (begins x y = b) := ⟨_, by unfold Hid; rfl⟩
              rw [HBGE.out] at HBG HSTEP
              have HNA : ∀ w2, (∃ m, w2 = wk.drew.drewN m) → (w2.alloc (.cells #[.string bg] 9)).ownsRow wr.heap.size 9 1 u14 Wk.length (strs Wk) ∧ Below wr.heap.size wr w2 ∧ wr.heap.size ≤ w2.heap.size ∧ w2.cell? ⟨gf, j, none⟩ = some (.string x) ∧ w2.cell? ⟨gf, k, none⟩ = some (.string y) := by
                rintro w2 ⟨m, rfl⟩
                have hb2 := below_drewN hbk.drew m
                exact ⟨(ownsRow_below howk (below_drewN (Below.refl _ _).drew m)).alloc _, hb2, hb2.size, c1, c2⟩
              have HOWB : Hid (∀ z, (u14 : Value).ownBlock = some z → wr.heap.size ≤ z) := fun z e => (howk.lt z e).1
              clear hbk howk hmk hcF hxj hyk
              go_upto_region 21 with fail
              go_region_law
                  ((first
                    | (refine step_append_lies _ (by rfl) _ _ _ (by rfl) wr.heap.size 9 i0 (.string ByteArray.empty) 1 16 Try.underlying39 hi0 hz0 hz01 hz02 rfl (by decide) u14 Wk.length (strs Wk) (by rfl) hna ⟨w2.heap.size, 0, none⟩ 1 1 [.string bg] (by rfl) (by rfl) (cell_one_new _ _ _) (by intro u hu; simp at hu; subst hu; rfl) (by decide) (by unfold maxLen; omega) (by omega) (by simp; omega) (w2.heap.size + 1) (by simp) ?_; intro g' cap' w3 hown3 hgr hfr hlt3; have HO3 : Hid (w3.ownsRow wr.heap.size 9 1 (.slice (some ⟨g', 0, none⟩) (Wk.length + 1) cap') (Wk.length + 1) (strs Wk ++ [.string bg])) := hown3; have HG3 : Hid ((w2.alloc (.cells #[.string bg] 9)).grownBy w3 (u14 : Value).ownBlock) := hgr; clear hown3 hgr hfr hlt3)
                    | (go_simp; go_at_call 26; refine HBG.mono ?_; rintro e w2 ⟨rfl, hw2⟩; obtain ⟨hna, hb2, hs2, d1, d2⟩ := HNA w2 hw2; have HB2 : Hid (Below wr.heap.size wr w2) := hb2; clear hw2 hb2 HNA)))
              all_goals go_wp2_with fail
              all_goals go_roundw
              all_goals first | (simp [intOf]; omega) | exact ⟨k + 1, Wk ++ [bg], by omega, by go_num, (HB2.out.alloc (by omega) _).grown HG3.out (by simp; omega) (fun z e => HOWB.out z e), by have := HO3.out; rw [strs_snoc] at this; rw [List.length_append, List.length_singleton]; exact this, HSTEP.out, by rw [List.length_append, List.length_singleton]; omega⟩
            · have q3 : ¬ (k : Int) ≤ (j : Int) := by omega
              have ek : k = j + 1 := by omega
              clear hbk howk hmk
              go_wp2_with fail
              go_roundw
              case rel =>
                refine ⟨j + 1, Wk, by omega, by go_num, HBK2.out, HOWK.out, fun s => ?_, by omega⟩
                rw [wantM_next, HMK.out s, ek]
              case measure => simp [intOf]; omega
        · have q2 : ¬ (j : Int) < (Lf.length : Int) := by omega
          have ej : j = Lf.length := by omega
          have HSRT := sorted_ok wi u14 _ Wt (by omega) HOWT.out
          have hbi := HBI.out
          have hsi := hbi.size
          have HX2 : ∀ wj, Below wr.heap.size wr wj → BxAt wj bx t n cur0 := fun wj hb => HX.out.below hb
          have HKS : Hid (∀ s, s ∈ Wt ↔ s ∈ knots t n n) := fun s => by rw [HMW.out s, ej, wantM_all HSF.out]
          clear hcF
          go_wp2_with (go_at_call 27; refine HSRT.mono ?_; rintro e w2 ⟨hb2, vs, L2, rfl, ho2, hl2, hle2, hm2⟩; have HB2 : Hid (Below wr.heap.size wr w2) := hbi.trans (hb2.mono hsi); have HO2 : Hid (w2.ownsRow wi.heap.size 9 1 vs L2.length (strs L2)) := ho2; have HLE2 : Hid (LeS L2) := hle2; have HM2 : Hid (∀ s, s ∈ L2 ↔ s ∈ knots t n n) := (fun s => by rw [hm2 s, HKS.out s]); have HL2 : Hid (L2.length ≤ 1000) := (by unfold Hid; omega); clear hb2 ho2 hle2 hm2 hl2)
          obtain ⟨sa, sc, hvs, hss⟩ := ownsRow_shape HO2.out
          subst hvs
          have hl2 := HL2.out
          have hcS : ∀ wj, Below w2.heap.size w2 wj → ∀ k y, L2[k]? = some y → ∃ g, sa = some ⟨g, 0, none⟩ ∧ wj.cell? ⟨g, k, none⟩ = some (.string y) := fun wj hbj k y hy => by
            have hk := (List.getElem?_eq_some_iff.1 hy).1
            obtain ⟨g, e1, c1⟩ := hss (by omega)
            have := (c1 k (by omega)).trans (strs_get? hy)
            exact ⟨g, e1, ((bcell hbj).1 g k (lt_of_cell this)).trans this⟩
          clear hss
          go_loopw [17, 18] (fun v i' wo => ∃ (m : Nat) (O : List ByteArray), m ≤ L2.length ∧ i' = .int .i64 (m : Int) ∧ Below w2.heap.size w2 wo ∧ wo.ownsRow w2.heap.size 9 1 v O.length (strs O) ∧ (∀ s, s ∈ O ↔ s ∈ L2.take m) ∧ O.Pairwise (fun a b => less a b = true) ∧ O.length ≤ m) (fun _ i' _ => L2.length - (intOf i').toNat)
          case atStart => exact ⟨0, [], by omega, rfl, Below.refl _ _, World.ownsRow_nil _ _ _ _, fun s => by simp, List.Pairwise.nil, by simp⟩
          case round =>
            obtain ⟨m, O, hm, rfl, hbo, hoo, hmo, hpo, hlo⟩ := hrel
            rename World => wo
            have hbso := hbo.size
            have HBO : Hid (Below w2.heap.size w2 wo) := hbo
            have HOO : Hid (wo.ownsRow w2.heap.size 9 1 u17 O.length (strs O)) := hoo
            have HMO : Hid (∀ s, s ∈ O ↔ s ∈ L2.take m) := hmo
            have HPO : Hid (O.Pairwise (fun a b => less a b = true)) := hpo
            by_cases hml : m < L2.length
            · have q3 : (m : Int) < (L2.length : Int) := by omega
              obtain ⟨x, HXX⟩ : ∃ x, Hid (L2[m] = x) := ⟨L2[m], by unfold Hid; rfl⟩
              have hxm : L2[m]? = some x := by rw [List.getElem?_eq_getElem hml, HXX.out]
              obtain ⟨gs, rfl, c1⟩ := hcS wo hbo m x hxm
              have HNA : ∀ wp, (∃ q, wp = wo.drewN q) → (wp.alloc (.cells #[.string x] 9)).ownsRow w2.heap.size 9 1 u17 O.length (strs O) ∧ Below w2.heap.size w2 wp ∧ w2.heap.size ≤ wp.heap.size ∧ wp.cell? ⟨gs, m, none⟩ = some (.string x) := by
                rintro wp ⟨q, rfl⟩
                have hb2 := below_drewN hbo q
                exact ⟨(ownsRow_below hoo (below_drewN (Below.refl _ _) q)).alloc _, hb2, hb2.size, c1⟩
              have HOW : Hid (∀ z, (u17 : Value).ownBlock = some z → w2.heap.size ≤ z) := fun z e => (hoo.lt z e).1
              have HADD : Hid ((m = 0 ∨ L2[m - 1]? ≠ some x) → (O ++ [x]).Pairwise (fun a b => less a b = true) ∧ ∀ s, s ∈ O ++ [x] ↔ s ∈ L2.take (m + 1)) := fun hd => by
                have := once_add hml HLE2.out hpo hmo (by rw [HXX.out]; exact hd)
                rw [HXX.out] at this
                exact this
              have HSK : Hid (m ≠ 0 → L2[m - 1]? = some x → ∀ s, s ∈ O ↔ s ∈ L2.take (m + 1)) := fun h0 he => once_skip hml hmo h0 (by rw [HXX.out]; exact he)
              clear hoo hmo hpo
              cases m with
              | zero =>
                clear hbo hcS
                go_wp2_with fail
                go_quiet (fail)
                obtain ⟨wp, hwp⟩ : ∃ y, y = wo.drewN nq := ⟨_, rfl⟩
                rw [← hwp]
                obtain ⟨hna, hbp, hsp, cp⟩ := HNA wp ⟨nq, hwp⟩
                have HBP : Hid (Below w2.heap.size w2 wp) := hbp
                clear hwp hbp HNA
                go_wp2_with (at_builtin; refine wpList_append_fresh _ rfl _ _ 39 rfl w2.heap.size 9 i0 (.string ByteArray.empty) 1 16 Try.underlying39 hi0 hz0 hz01 hz02 rfl (by decide) _ O.length (strs O) rfl hna ⟨wp.heap.size, 0, none⟩ 1 1 [.string x] rfl rfl (cell_one_new _ _ _) (by intro u hu; simp at hu; subst hu; rfl) (by decide) (by unfold maxLen; omega) (by omega) (by simp; omega) ?_; intro g' cap' w3 hown3 hgr hfr; have HO3 : Hid (w3.ownsRow w2.heap.size 9 1 (.slice (some ⟨g', 0, none⟩) (O.length + 1) cap') (O.length + 1) (strs O ++ [.string x])) := hown3; have HG3 : Hid ((wp.alloc (.cells #[.string x] 9)).grownBy w3 (u17 : Value).ownBlock) := hgr; clear hown3 hgr hfr)
                go_roundw
                case rel =>
                  obtain ⟨k1, k2⟩ := HADD.out (by simp)
                  refine ⟨0 + 1, O ++ [x], by omega, by go_num, (HBP.out.alloc (by omega) _).grown HG3.out (by simp; omega) (fun z e => HOW.out z e), ?_, k2, k1, by rw [List.length_append, List.length_singleton]; omega⟩
                  have := HO3.out
                  rw [strs_snoc] at this
                  rw [List.length_append, List.length_singleton]
                  exact this
                case measure => simp [intOf]; omega
              | succ m =>
                obtain ⟨y, hym⟩ : ∃ y, L2[m]? = some y := ⟨_, List.getElem?_eq_getElem (by omega)⟩
                obtain ⟨gs2, eg, c2⟩ := hcS wo hbo m y hym
                injection eg with eg
                injection eg with eg
                subst eg
                have q4 : ((m : Int) + 1 == 0) = false := by simp; omega
                have q5 : (m : Int) < (L2.length : Int) := by omega
                have hwm : IntKind.i64.wrap (m : Int) = (m : Int) := by rw [IntKind.wrap_i64]; omega
                have HYM : Hid (L2[m + 1 - 1]? = some y) := by unfold Hid; rw [Nat.add_sub_cancel]; exact hym
                rw [show ((m + 1 : Nat) : Int) = (m : Int) + 1 by simp]
                rw [show ((m + 1 : Nat) : Int) = (m : Int) + 1 by simp] at q3
                clear hbo hcS hym
                by_cases exy : x = y
                · have q6 : (x.toList == y.toList) = true := by rw [beq_str]; simp [exy]
                  have HEXY : Hid (x = y) := exy
                  clear exy
                  go_wp2_with fail
                  go_quiet (fail)
                  go_wp2_with fail
                  go_roundw
                  case rel => exact ⟨m + 1 + 1, O, by omega, by go_num, below_drewN HBO.out nq, ownsRow_below HOO.out (below_drewN (Below.refl _ _) nq), HSK.out (by omega) (by rw [HEXY.out]; exact HYM.out), HPO.out, by omega⟩
                  case measure => simp [intOf]; omega
                · have q6 : (x.toList == y.toList) = false := by rw [beq_str]; simp [exy]
                  go_wp2_with fail
                  go_quiet (fail)
                  obtain ⟨wp, hwp⟩ : ∃ y, y = wo.drewN nq := ⟨_, rfl⟩
                  rw [← hwp]
                  obtain ⟨hna, hbp, hsp, cp⟩ := HNA wp ⟨nq, hwp⟩
                  have HBP : Hid (Below w2.heap.size w2 wp) := hbp
                  clear hwp hbp HNA
                  go_wp2_with (at_builtin; refine wpList_append_fresh _ rfl _ _ 39 rfl w2.heap.size 9 i0 (.string ByteArray.empty) 1 16 Try.underlying39 hi0 hz0 hz01 hz02 rfl (by decide) _ O.length (strs O) rfl hna ⟨wp.heap.size, 0, none⟩ 1 1 [.string x] rfl rfl (cell_one_new _ _ _) (by intro u hu; simp at hu; subst hu; rfl) (by decide) (by unfold maxLen; omega) (by omega) (by simp; omega) ?_; intro g' cap' w3 hown3 hgr hfr; have HO3 : Hid (w3.ownsRow w2.heap.size 9 1 (.slice (some ⟨g', 0, none⟩) (O.length + 1) cap') (O.length + 1) (strs O ++ [.string x])) := hown3; have HG3 : Hid ((wp.alloc (.cells #[.string x] 9)).grownBy w3 (u17 : Value).ownBlock) := hgr; clear hown3 hgr hfr)
                  go_roundw
                  case rel =>
                    obtain ⟨k1, k2⟩ := HADD.out (.inr (by rw [HYM.out]; intro e; injection e with e; exact exy e.symm))
                    refine ⟨m + 1 + 1, O ++ [x], by omega, by go_num, (HBP.out.alloc (by omega) _).grown HG3.out (by simp; omega) (fun z e => HOW.out z e), ?_, k2, k1, by rw [List.length_append, List.length_singleton]; omega⟩
                    have := HO3.out
                    rw [strs_snoc] at this
                    rw [List.length_append, List.length_singleton]
                    exact this
                  case measure => simp [intOf]; omega
            · have q3 : ¬ (m : Int) < (L2.length : Int) := by omega
              have em : m = L2.length := by omega
              have hbR : Below wr.heap.size wr wo := HB2.out.trans (hbo.mono HB2.out.size)
              have hxo := HX2 wo hbR
              have hz : ∀ a, a < n → (t a).size ≤ 12 := fun a ha => HTZ.out (t a) ((HSF.out.mem (t a)).2 ⟨a, ha, rfl⟩)
              have hn60 : n ≤ 60 := by have := HSF.out.len; omega
              have HKN := tknots_ok wo bx n t cur0 hxo hn60 hz
              have HEQ : Hid (O = knots t n n) := srt_unique O (knots t n n) hpo (knots_srt HSF.out.srt n (Nat.le_refl _)) (fun s => by rw [hmo s, em, List.take_length]; exact HM2.out s)
              have HNL : Hid (n = Lf.length) := HSF.out.len.symm
              have hbW : Below w.heap.size w wo := HB.out.trans (hbR.mono hbs)
              have HBW : Hid (Below w.heap.size w wo) := hbW
              have hws := hbW.size
              have HCT := fun wj (hj : BxAt wj bx t n cur0) => tcount_ok wj bx n t cur0 hj
              have HSM3 : ∀ wj v, Below wo.heap.size wo wj → wj.ownsRow wo.heap.size 9 1 v (knots t n n).length (strs (knots t n n)) → Calls Try.prog 30 #[v, u17] wj fun e w' => e = .returned (.bool true) ∧ Below wj.heap.size wj w' := fun wj v hbj hv => by
                have hoj := ownsRow_below hoo hbj
                rw [HEQ.out] at hoj
                exact ksame_ok wj v u17 _ _ (knots t n n) (by rw [← HEQ.out]; omega) hv hoj
              have HXJ : ∀ wj, Below wo.heap.size wo wj → BxAt wj bx t n cur0 := fun wj hb => hxo.below hb
              have q6 : ((n : Int) == (Lf.length : Int)) = true := by rw [HNL.out]; simp
              clear hbo hoo hmo hpo hcS hxo hbR hbW hz
              go_wp2_with (first
                | (go_at_call 28; refine HKN.mono ?_; rintro e w4 ⟨hb4, v4, rfl, ho4⟩; have HCT4 := HCT w4 (HXJ w4 hb4); have HSM4 := HSM3 w4 v4 hb4 ho4; have HB4 : Hid (Below wo.heap.size wo w4) := hb4; clear HCT HXJ HSM3 hb4 ho4)
                | (go_at_call 29; refine HCT4.mono ?_; rintro e w5 ⟨rfl, hw5⟩; obtain rfl : w4 = w5 := hw5.symm)
                | (go_at_call 30; refine HSM4.mono ?_; rintro e w6 ⟨rfl, hb6⟩; have HB6 : Hid (Below w4.heap.size w4 w6) := hb6; clear hb6))
              go_ret
              have s4 := HB4.out.size
              exact ⟨rfl, (HBW.out.trans (HB4.out.mono hws)).trans (HB6.out.mono (by omega))⟩
end Go.Proofs.Ytpngikmcjkjdaab
