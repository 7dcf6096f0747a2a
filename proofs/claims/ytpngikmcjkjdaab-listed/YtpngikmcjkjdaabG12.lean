import Derived.BigQuiet
import Derived.Deep.OwnRows
import Derived.Deep.QuietTactic
import Derived.Deep.Upon
import Derived.OpenShut
import Derived.Test.YtpngikmcjkjdaabG1
import Derived.Test.YtpngikmcjkjdaabG11
import Derived.Test.YtpngikmcjkjdaabG3
set_option linter.unusedVariables false
set_option linter.unusedSimpArgs false
namespace Go.Proofs.Ytpngikmcjkjdaab
open Go.RowKit
set_option linter.unusedVariables false
set_option linter.unusedSimpArgs false
set_option maxRecDepth 20000 in
set_option maxHeartbeats 1000000 in
theorem text_any (most : Nat) (hmost : most ≤ 1000) (ao : Option Addr) (len cap : Nat) (z : Nat → Int) (w : World) (h : CodeAt w ao len z) :
    Calls Try.prog 19 #[.slice ao len cap, .int .i64 (most : Int)] w fun e w' => ∃ s : ByteArray, e = .returned (.string s) ∧ IsText s ∧ s.size ≤ most ∧ Below w.heap.size w w' := by
  have hln := h.ln
  go_enter Try.func19, Try.ntmps19
  go_wp2_with fail
  go_loopw [5, 6] (fun sv i' wr => ∃ (i : Nat) (s : ByteArray), i ≤ most ∧ i' = .int .i64 i ∧ sv = .string s ∧ IsText s ∧ s.size = i ∧ Below w.heap.size w wr)
    (fun _ i' _ => most - (intOf i').toNat)
  case atStart => exact ⟨0, _, by omega, rfl, rfl, by intro c hc; simp at hc, rfl, Below.refl _ _⟩
  case round =>
    obtain ⟨i, s, hi, rfl, rfl, hs, hsz, hb⟩ := hrel
    have HS : Hid (IsText s) := hs
    have HSZ : Hid (s.size = i) := hsz
    have hsle : s.size ≤ most := by omega
    clear hs hsz
    by_cases hlt : i < len
    · by_cases hl : i < most
      · obtain ⟨b, o, rfl, hc⟩ := (h.below hb).cell i hlt
        have hr := h.rng i hlt
        obtain ⟨pv, HPV⟩ : ∃ x, Hid (pickN (z i) 8 = x) := ⟨_, rfl⟩
        have hpv : pv < 8 := by rw [← HPV.out]; exact pickN_lt _ _ (by omega)
        have HB : Hid (Below w.heap.size w wr) := hb
        have hbs := hb.size
        clear h hb
        go_wp2_with fail
        refine (pick_any (z i) 8 _ (by omega) (by omega) hr.1 hr.2).mono ?_
        rw [show (8 : Int).toNat = 8 from rfl, HPV.out]
        rintro e w' ⟨rfl, hw'⟩
        obtain rfl : wr = w' := hw'.symm
        have hcv := conv_note pv hpv
        go_wp2_with fail
        go_roundw
        case rel =>
          have hz := HSZ.out
          refine ⟨i + 1, s ++ ⟨#[noteB pv]⟩, by omega, by go_num, ?_, isText_push _ _ HS.out (isText_note pv hpv), ?_, ?_⟩
          · rfl
          · rw [ByteArray.size_append, hz]; rfl
          · exact HB.out.alloc (by omega) _
        case measure => simp [intOf]; omega
      · have hbn : ((i : Int) < (most : Int)) = False := by simp; omega
        clear h
        go_wp2_with fail
        go_ret
        exact ⟨s, rfl, HS.out, hsle, hb⟩
    · clear h
      go_wp2_with fail
      go_ret
      exact ⟨s, rfl, HS.out, hsle, hb⟩
end Go.Proofs.Ytpngikmcjkjdaab

namespace Go.Proofs.Ytpngikmcjkjdaab
open Go.RowKit
set_option linter.unusedVariables false
set_option linter.unusedSimpArgs false
abbrev Bs := List UInt8
theorem bl_cons (a b : UInt8) (x y : Bs) : Op.bytesLess (a :: x) (b :: y) = true ↔ a < b ∨ (a = b ∧ Op.bytesLess x y = true) := by
  simp [Op.bytesLess]
theorem bl_trans : ∀ x y z : Bs, Op.bytesLess x y = true → Op.bytesLess y z = true → Op.bytesLess x z = true
  | [], [], _, h, _ => by simp [Op.bytesLess] at h
  | [], _ :: _, [], _, h => by simp [Op.bytesLess] at h
  | [], _ :: _, _ :: _, _, _ => by simp [Op.bytesLess]
  | _ :: _, [], _, h, _ => by simp [Op.bytesLess] at h
  | _ :: _, _ :: _, [], _, h => by simp [Op.bytesLess] at h
  | a :: x, b :: y, c :: z, h1, h2 => by
    rw [bl_cons] at h1 h2 ⊢
    rcases h1 with h1 | ⟨rfl, h1⟩
    · rcases h2 with h2 | ⟨rfl, h2⟩
      · exact .inl (by simp only [UInt8.lt_iff_toNat_lt] at *; omega)
      · exact .inl h1
    · rcases h2 with h2 | ⟨rfl, h2⟩
      · exact .inl h2
      · exact .inr ⟨rfl, bl_trans x y z h1 h2⟩
def lsb (s : ByteArray) : Bs := s.data.toList
theorem lsb_inj {a b : ByteArray} (h : lsb a = lsb b) : a = b := by
  cases a; cases b; simp only [lsb] at h; congr 1; exact Array.ext' h
def less (a b : ByteArray) : Bool := Op.bytesLess a.toList b.toList
theorem less_def (a b : ByteArray) : less a b = Op.bytesLess (lsb a) (lsb b) := by rw [less, ByteArray.toList_eq, ByteArray.toList_eq]; rfl
theorem beq_str (a b : ByteArray) : (a.toList == b.toList) = decide (a = b) := by
  rw [ByteArray.toList_eq, ByteArray.toList_eq]
  by_cases h : a = b
  · subst h; simp
  · have : lsb a ≠ lsb b := fun e => h (lsb_inj e)
    simp only [h, decide_false, beq_eq_false_iff_ne, ne_eq]
    exact this
theorem less_trans {a b c : ByteArray} (h1 : less a b = true) (h2 : less b c = true) : less a c = true := by rw [less_def] at *; exact bl_trans _ _ _ h1 h2
def SrtB (t : Nat → ByteArray) (n : Nat) : Prop := ∀ i j, i < j → j < n → less (t i) (t j) = true
structure IsPl (t : Nat → ByteArray) (n : Nat) (s : ByteArray) (p : Nat) : Prop where
  le : p ≤ n
  lo : ∀ j, j < p → less (t j) s = true
  at' : p < n → less (t p) s = false
section
variable {t : Nat → ByteArray} {n p : Nat} {s : ByteArray}
theorem IsPl.hi (h : IsPl t n s p) (hs : SrtB t n) (j : Nat) (h1 : p ≤ j) (h2 : j < n) : less (t j) s = false := by
  have h0 := h.at' (by omega)
  by_cases e : p = j
  · rw [← e]; exact h0
  · rw [Bool.eq_false_iff]
    intro h'
    have := less_trans (hs p j (by omega) h2) h'
    rw [h0] at this; cases this
end
open Classical in
def strs (l : List ByteArray) : List Value := l.map .string
theorem strs_snoc (l : List ByteArray) (s : ByteArray) : strs l ++ [.string s] = strs (l ++ [s]) := by simp [strs]
theorem strs_len (l : List ByteArray) : (strs l).length = l.length := by simp [strs]
end Go.Proofs.Ytpngikmcjkjdaab

namespace Go.Proofs.Ytpngikmcjkjdaab
open Go.RowKit
set_option linter.unusedVariables false
set_option linter.unusedSimpArgs false
def bookv (t : Nat → ByteArray) (n : Nat) (cx : Nat → Value) : Nat → Value := fun i => if i < 60 then .string (if i < n then t i else ByteArray.empty) else if i = 60 then .int .i64 (n : Int) else cx (i - 61)
def BxAt (w : World) (bx : Nat) (t : Nat → ByteArray) (n : Nat) (cx : Nat → Value) : Prop := w.rowIs bx 79 81 (bookv t n cx)
section
variable {w : World} {bx n : Nat} {t : Nat → ByteArray} {cx : Nat → Value}
theorem BxAt.all (h : BxAt w bx t n cx) {i : Nat} (hi : i < 60) : w.cell? ⟨bx, i, none⟩ = some (.string (if i < n then t i else ByteArray.empty)) := by
  have := World.rowIs.cell h (i := i) (by omega)
  rw [this]
  simp [bookv, hi]
theorem BxAt.drewN (h : BxAt w bx t n cx) (q : Nat) : BxAt (w.drewN q) bx t n cx := h
end
end Go.Proofs.Ytpngikmcjkjdaab

namespace Go.Proofs.Ytpngikmcjkjdaab
open Go.RowKit
set_option linter.unusedVariables false
set_option linter.unusedSimpArgs false
open Classical in
open Classical in
open Classical in
open Classical in
theorem Try.infoStr : (Try.prog.info? 9).map (fun i => (i.zero, i.size, i.bytes)) = some (some (.string ByteArray.empty), 1, 16) := by kernel_rfl
theorem BxAt.below {w w' : World} {bx n : Nat} {t : Nat → ByteArray} {cx : Nat → Value} (h : BxAt w bx t n cx) (hb : Below w.heap.size w w') : BxAt w' bx t n cx := World.rowIs.of_block h (hb.block bx (World.rowIs.lt h))
end Go.Proofs.Ytpngikmcjkjdaab

namespace Go.Proofs.Ytpngikmcjkjdaab
open Go.RowKit
set_option linter.unusedVariables false
set_option linter.unusedSimpArgs false
structure ListI (P : ByteArray) (L : List ByteArray) (i : Nat) : Prop where
  len : L.length = i
  tx : ∀ s ∈ L, IsText s ∧ s.size ≤ 3
  none : i = 0 → P = ⟨#[]⟩
  some : 0 < i → ∃ q, NamesP P L q
theorem ListI.next {P s : ByteArray} {L : List ByteArray} {i : Nat} (h : ListI P L i) (hi : 0 < i) (hs : IsText s) (h3 : s.size ≤ 3) : ListI (P ++ ⟨#[124]⟩ ++ s) (L ++ [s]) (i + 1) := by
  obtain ⟨q, hq⟩ := h.some hi
  refine ⟨by rw [List.length_append, h.len]; rfl, ?_, fun e => by omega, fun _ => ⟨_, names_more hq hs h3⟩⟩
  intro u hu
  rcases List.mem_append.1 hu with hu | hu
  · exact h.tx u hu
  · simp at hu; subst hu; exact ⟨hs, h3⟩
theorem ListI.first {P s : ByteArray} {L : List ByteArray} (h : ListI P L 0) (hs : IsText s) (h3 : s.size ≤ 3) : ListI (P ++ s) (L ++ [s]) 1 := by
  have e := h.none rfl
  have e2 : L = [] := List.length_eq_zero_iff.1 h.len
  subst e; subst e2
  refine ⟨rfl, ?_, fun e => by omega, fun _ => ⟨_, names_one hs h3⟩⟩
  intro u hu
  simp at hu; subst hu; exact ⟨hs, h3⟩
theorem strs_last {L : List ByteArray} {i : Nat} (h : L.length = i) (s : ByteArray) : (strs L ++ [.string s])[i]? = some (.string s) := by
  subst h
  rw [List.getElem?_append_right (by rw [strs_len]; exact Nat.le_refl _), strs_len, Nat.sub_self]
  rfl
theorem strs_has {l : List ByteArray} {i : Nat} {x : ByteArray} (h : l[i]? = some x) : (strs l)[i]? = some (.string x) := by simp [strs, h]
theorem code_of_row {w : World} {base : Nat} {oa : Option Addr} {k cap : Nat} {f : Nat → Int} (h : w.ownsRow base 3 1 (.slice oa k cap) k (zrow f k)) (hk : k ≤ 3) (hf : ∀ t, t < k → -9223372036854775808 ≤ f t ∧ f t ≤ 9223372036854775807) : CodeAt w oa k f := by
  obtain ⟨ao, cp, e, hc⟩ := ownsRow_shape h
  injection e with e1 e2 e3
  subst e1
  refine ⟨by omega, fun t ht => ?_, hf⟩
  obtain ⟨g, rfl, hce⟩ := hc (by omega)
  exact ⟨g, 0, rfl, by rw [Nat.zero_add, hce t (by omega), zrow_at f ht]⟩
set_option maxRecDepth 20000 in
set_option maxHeartbeats 4000000 in
theorem listed_walk (a1 a2 : Option Addr) (l1 l2 c1 c2 : Nat) (z1 z2 : Nat → Int) (which : Int) (w : World) (h1 : CodeAt w a1 l1 z1) (h2 : CodeAt w a2 l2 z2) (hw0 : -9223372036854775808 ≤ which) (hw1 : which ≤ 9223372036854775807) :
    Calls Try.prog 5 #[.slice a1 l1 c1, .slice a2 l2 c2, .int .i64 which] w fun e w' => e = .returned (.bool true) ∧ Below w.heap.size w w' := by
  obtain ⟨i0, hi0', hz0, hz01, hz02⟩ := info_parts Try.infoStr
  obtain ⟨i3, hi3, hz3, hz31, hz32⟩ := info_parts Try.info3
  have H1 : Hid (CodeAt w a1 l1 z1) := h1
  have H2 : Hid (CodeAt w a2 l2 z2) := h2
  clear h1 h2
  go_enter Try.func5, Try.ntmps5
  go_wp2_with fail
  go_loopw [7, 8, 9] (fun vl pv i' wr => ∃ (i : Nat) (L : List ByteArray) (P : ByteArray), i ≤ 3 ∧ i' = .int .i64 (i : Int) ∧ pv = .string P ∧ Hid (ListI P L i) ∧ P.size ≤ 4 * i ∧ Below w.heap.size w wr ∧ wr.ownsRow w.heap.size 9 1 vl i (strs L)) (fun _ _ i' _ => 3 - (intOf i').toNat)
  case atStart => exact ⟨0, [], ⟨#[]⟩, by omega, rfl, rfl, ⟨rfl, by simp, fun _ => rfl, fun h => by omega⟩, by show 0 ≤ _; omega, Below.refl _ _, World.ownsRow_nil _ _ _ _⟩
  case round =>
    obtain ⟨i, L, P, hi, rfl, rfl, HL, hPz, hb, hown⟩ := hrel
    obtain ⟨ol, cl, rfl, hsh⟩ := ownsRow_shape hown
    by_cases hlt : i < 3
    · have r0 := atN_rng H1.out (4 * i)
      obtain ⟨z0, HZ0⟩ : ∃ x, Hid (atN l1 z1 (4 * i) = x) := ⟨_, rfl⟩
      rw [HZ0.out] at r0
      obtain ⟨pn, HPN⟩ : ∃ x, Hid (pickN z0 4 = x) := ⟨_, rfl⟩
      have hpn : pn < 4 := by rw [← HPN.out]; exact pickN_lt _ _ (by omega)
      have HA : Hid (∀ wj, Below w.heap.size w wj → Calls Try.prog 18 #[.slice a1 l1 c1, .int .i64 (4 * (i : Int))] wj fun e w' => e = .returned (.int .i64 z0) ∧ w' = wj) := fun wj hj => by
        have := at_ok a1 l1 c1 z1 (4 * (i : Int)) wj (H1.out.below hj) (by omega)
        rw [show (4 * (i : Int)).toNat = 4 * i by omega, HZ0.out] at this
        exact this
      have HP : Hid (∀ wj, Calls Try.prog 17 #[.int .i64 z0, .int .i64 4] wj fun e w' => e = .returned (.int .i64 (pn : Int)) ∧ w' = wj) := fun wj => by
        have := pick_any z0 4 wj (by omega) (by omega) r0.1 r0.2
        rw [show (4 : Int).toNat = 4 from rfl, HPN.out] at this
        exact this
      have hbs := hb.size
      have hd3 : decide ((i : Int) < 3) = true := by simp; omega
      clear hsh HZ0 HPN r0
      go_wp2_with fail
      clear hd3
      go_loopw [10, 11] (fun vn k' wk => ∃ k : Nat, k ≤ pn ∧ k' = .int .i64 (k : Int) ∧ Below w.heap.size w wk ∧ wk.ownsRow w.heap.size 9 1 (.slice ol i cl) i (strs L) ∧ wk.ownsRow w.heap.size 3 1 vn k (zrow (fun t => atN l1 z1 (4 * i + 1 + t)) k)) (fun _ k' _ => pn - (intOf k').toNat)
      case atStart => exact ⟨0, by omega, rfl, hb, hown, World.ownsRow_nil _ _ _ _⟩
      case round =>
        clear hb hown
        obtain ⟨k, hk, rfl, hb, hown, hnr⟩ := hrel
        obtain ⟨on, cn, rfl, _⟩ := ownsRow_shape hnr
        have hbs2 := hb.size
        have HC1 := HA.out wr hb
        have HC2 := HP.out wr
        go_wp2_with fail
        refine HC1.mono ?_
        clear HC1
        rintro e w' ⟨rfl, hw'⟩
        obtain rfl : wr = w' := hw'.symm
        by_cases hkl : k < pn
        · have HC3 := at_ok a1 l1 c1 z1 (4 * (i : Int) + 1 + (k : Int)) wr (H1.out.below hb) (by omega)
          rw [show (4 * (i : Int) + 1 + (k : Int)).toNat = 4 * i + 1 + k by omega] at HC3
          obtain ⟨zk, HZK⟩ : ∃ x, Hid (atN l1 z1 (4 * i + 1 + k) = x) := ⟨_, rfl⟩
          rw [HZK.out] at HC3
          have hna := hnr.alloc (.cells #[.int .i64 zk] 3)
          have HOL : Hid ((wr.alloc (.cells #[.int .i64 zk] 3)).ownsRow w.heap.size 9 1 (.slice ol i cl) i (strs L)) := hown.alloc _
          have HB : Hid (Below w.heap.size w (wr.alloc (.cells #[.int .i64 zk] 3))) := hb.alloc hbs2 _
          have HOW : Hid (∀ y, (Value.slice on k cn).ownBlock = some y → w.heap.size ≤ y) := fun y e => (hnr.lt y e).1
          have HNR : Hid ((wr.alloc (.cells #[.int .i64 zk] 3)).ownsRow w.heap.size 3 1 (.slice on k cn) k (zrow (fun t => atN l1 z1 (4 * i + 1 + t)) k)) := hna
          clear hb hown hnr
          go_wp2_with fail
          refine HC2.mono ?_
          clear HC2
          rintro e w' ⟨rfl, hw'⟩
          obtain rfl : wr = w' := hw'.symm
          go_wp2_with fail
          refine HC3.mono ?_
          clear HC3
          rintro e w' ⟨rfl, hw'⟩
          obtain rfl : wr = w' := hw'.symm
          go_wp2_with (at_builtin; refine wpList_append_fresh _ rfl _ _ 22 rfl w.heap.size 3 i3 (.int .i64 0) 1 8 Try.underlying22 hi3 hz3 hz31 hz32 rfl (by decide) _ k (zrow (fun t => atN l1 z1 (4 * i + 1 + t)) k) rfl hna ⟨wr.heap.size, 0, none⟩ 1 1 [.int .i64 zk] rfl rfl (cell_one_new _ _ _) (by intro u hu; simp at hu; subst hu; rfl) (by decide) (by unfold maxLen; omega) (by omega) (by simp; omega) ?_; intro g cap2 w2 hown2 hgr hfr; have HO : Hid _ := hown2; have HG : Hid _ := hgr; clear hown2 hgr hfr)
          go_roundw
          case rel =>
            have ho := HO.out
            rw [show zrow (fun t => atN l1 z1 (4 * i + 1 + t)) k ++ [.int .i64 zk] = zrow (fun t => atN l1 z1 (4 * i + 1 + t)) (k + 1) by rw [← zrow_snoc, HZK.out]] at ho
            exact ⟨k + 1, by omega, by go_num, HB.out.grown HG.out (by simp; omega) (fun y e => HOW.out y e), lst_keeps HOL.out HNR.out (by decide) HG.out, ho⟩
          case measure => simp [intOf]; omega
        · have ek : k = pn := by omega
          subst ek
          have HCD : Hid (CodeAt wr on k (fun t => atN l1 z1 (4 * i + 1 + t))) := code_of_row hnr (by omega) (fun t _ => atN_rng H1.out _)
          have HT := text_any 3 (by omega) on k cn _ wr HCD.out
          have HB : Hid (Below w.heap.size w wr) := hb
          have HOL : Hid (wr.ownsRow w.heap.size 9 1 (.slice ol i cl) i (strs L)) := hown
          have HNA : ∀ w2 (s : ByteArray), Below wr.heap.size wr w2 → (w2.alloc (.cells #[.string s] 9)).ownsRow w.heap.size 9 1 (.slice ol i cl) i (strs L) ∧ w.heap.size ≤ w2.heap.size := fun w2 s hb2 => ⟨(ownsRow_below HOL.out hb2).alloc _, by have := hb2.size; omega⟩
          have HOW : Hid (∀ y, (Value.slice ol i cl).ownBlock = some y → w.heap.size ≤ y) := fun y e => (hown.lt y e).1
          clear hb hown hnr
          by_cases hi1 : 0 < i
          · go_wp2_with fail
            refine HC2.mono ?_
            clear HC2
            rintro e w' ⟨rfl, hw'⟩
            obtain rfl : wr = w' := hw'.symm
            go_wp2_with fail
            refine HT.mono ?_
            clear HT
            rintro e w2 ⟨s, rfl, hs, hs3, hb2⟩
            obtain ⟨hna, hs2⟩ := HNA w2 s hb2
            have HB2 : Hid (Below w.heap.size w (w2.alloc (.cells #[.string s] 9))) := (HB.out.trans (hb2.mono hbs2)).alloc hs2 _
            have HS : Hid (IsText s) := hs
            clear hs hb2 HNA
            go_wp2_with (at_builtin; refine wpList_append_fresh _ rfl _ _ 39 rfl w.heap.size 9 i0 (.string ByteArray.empty) 1 16 Try.underlying39 hi0' hz0 hz01 hz02 rfl (by decide) _ i (strs L) rfl hna ⟨w2.heap.size, 0, none⟩ 1 1 [.string s] rfl rfl (cell_one_new _ _ _) (by intro u hu; simp at hu; subst hu; rfl) (by decide) (by unfold maxLen; omega) (by omega) (by simp; omega) ?_; intro g' cap' w3 hown3 hgr hfr; have hce : w3.cell? ⟨g', i, none⟩ = some (.string s) := (hown3.cellAt i (by omega)).trans (strs_last HL.out.len s); have HO3 : Hid _ := hown3; have HG3 : Hid _ := hgr; clear hown3 hgr hfr)
            go_roundw
            case rel =>
              have ho := HO3.out
              rw [strs_snoc] at ho
              refine ⟨i + 1, L ++ [s], _, by omega, by go_num, rfl, HL.out.next hi1 HS.out hs3, ?_, HB2.out.grown HG3.out (by simp; omega) (fun y e => HOW.out y e), ho⟩
              rw [ByteArray.size_append, ByteArray.size_append]
              show P.size + 1 + s.size ≤ _
              omega
            case measure => simp [intOf]; omega
          · have e0 : i = 0 := by omega
            subst e0
            go_wp2_with fail
            refine HC2.mono ?_
            clear HC2
            rintro e w' ⟨rfl, hw'⟩
            obtain rfl : wr = w' := hw'.symm
            go_wp2_with fail
            refine HT.mono ?_
            clear HT
            rintro e w2 ⟨s, rfl, hs, hs3, hb2⟩
            obtain ⟨hna, hs2⟩ := HNA w2 s hb2
            have HB2 : Hid (Below w.heap.size w (w2.alloc (.cells #[.string s] 9))) := (HB.out.trans (hb2.mono hbs2)).alloc hs2 _
            have HS : Hid (IsText s) := hs
            clear hs hb2 HNA
            go_wp2_with (at_builtin; refine wpList_append_fresh _ rfl _ _ 39 rfl w.heap.size 9 i0 (.string ByteArray.empty) 1 16 Try.underlying39 hi0' hz0 hz01 hz02 rfl (by decide) _ 0 (strs L) rfl hna ⟨w2.heap.size, 0, none⟩ 1 1 [.string s] rfl rfl (cell_one_new _ _ _) (by intro u hu; simp at hu; subst hu; rfl) (by decide) (by unfold maxLen; omega) (by omega) (by simp; omega) ?_; intro g' cap' w3 hown3 hgr hfr; have hce : w3.cell? ⟨g', 0, none⟩ = some (.string s) := (hown3.cellAt 0 (by omega)).trans (strs_last HL.out.len s); have HO3 : Hid _ := hown3; have HG3 : Hid _ := hgr; clear hown3 hgr hfr)
            go_roundw
            case rel =>
              have ho := HO3.out
              rw [strs_snoc] at ho
              refine ⟨0 + 1, L ++ [s], _, by omega, by go_num, rfl, HL.out.first HS.out hs3, ?_, HB2.out.grown HG3.out (by simp; omega) (fun y e => HOW.out y e), ho⟩
              rw [ByteArray.size_append]
              omega
            case measure => simp [intOf]
    · have e3 : i = 3 := by omega
      subst e3
      obtain ⟨g, rfl, hce⟩ := hsh (by omega)
      have HT := text_any 1000 (by omega) a2 l2 c2 z2 wr (H2.out.below hb)
      rw [show ((1000 : Nat) : Int) = 1000 from rfl] at HT
      have HB : Hid (Below w.heap.size w wr) := hb
      have HOL : Hid (wr.ownsRow w.heap.size 9 1 (.slice (some ⟨g, 0, none⟩) 3 cl) 3 (strs L)) := hown
      obtain ⟨pa, HPA⟩ : ∃ y, Hid (pickN which 2 = y) := ⟨_, rfl⟩
      have hpa : pa < 2 := by rw [← HPA.out]; exact pickN_lt _ _ (by omega)
      have HP : Hid (∀ wj, Calls Try.prog 17 #[.int .i64 which, .int .i64 2] wj fun e w' => e = .returned (.int .i64 (pa : Int)) ∧ w' = wj) := fun wj => by
        have := pick_any which 2 wj (by omega) (by omega) hw0 hw1
        rw [show (2 : Int).toNat = 2 from rfl, HPA.out] at this
        exact this
      obtain ⟨pb, HPB⟩ : ∃ y, Hid (pickN which 3 = y) := ⟨_, rfl⟩
      have hpb : pb < 3 := by rw [← HPB.out]; exact pickN_lt _ _ (by omega)
      have HPC : Hid (∀ wj, Calls Try.prog 17 #[.int .i64 which, .int .i64 3] wj fun e w' => e = .returned (.int .i64 (pb : Int)) ∧ w' = wj) := fun wj => by
        have := pick_any which 3 wj (by omega) (by omega) hw0 hw1
        rw [show (3 : Int).toNat = 3 from rfl, HPB.out] at this
        exact this
      clear hce hb hown hsh HPA HPB
      go_wp2_with fail
      refine HT.mono ?_
      clear HT
      rintro e w2 ⟨xt, rfl, hxt, hxs, hb2⟩
      have HB2 : Hid (Below w.heap.size w w2) := HB.out.trans (hb2.mono HB.out.size)
      have hol2 := ownsRow_below HOL.out hb2
      have HCE : Hid (∀ j, j < 3 → w2.cell? ⟨g, j, none⟩ = (strs L)[j]?) := fun j hj => hol2.cellAt j (by omega)
      have HXT : Hid (IsText xt) := hxt
      have HCP := HP.out w2
      clear hb2 hol2 HOL HB hxt HP
      by_cases hp0 : pa = 0
      · subst hp0
        obtain ⟨x, hx⟩ : ∃ s, L[pb]? = some s := ⟨L[pb]'(by rw [HL.out.len]; exact hpb), List.getElem?_eq_getElem _⟩
        have cx := (HCE.out pb hpb).trans (strs_has hx)
        have hxm := HL.out.tx x (List.mem_of_getElem? hx)
        have HX : Hid (IsText x) := hxm.1
        have hx1 : x.size ≤ 1000 := by have := hxm.2; omega
        have HCQ := HPC.out w2
        clear hx hxm HPC
        go_wp2_with fail
        refine HCP.mono ?_
        clear HCP
        rintro e w' ⟨rfl, hw'⟩
        obtain rfl : w2 = w' := hw'.symm
        go_wp2_with fail
        refine HCQ.mono ?_
        clear HCQ
        rintro e w' ⟨rfl, hw'⟩
        obtain rfl : w2 = w' := hw'.symm
        go_wp2_with fail
        go_loopw [13, 14] (fun b' i' wk => ∃ i : Nat, i ≤ 3 ∧ i' = .int .i64 (i : Int) ∧ b' = .bool (isIn L x i) ∧ Below w2.heap.size w2 wk) (fun _ i' _ => 3 - (intOf i').toNat)
        case atStart => exact ⟨0, by omega, rfl, rfl, Below.refl _ _⟩
        case round =>
          obtain ⟨i, hi, rfl, rfl, hbk⟩ := hrel
          by_cases hlt : i < 3
          · obtain ⟨lk, hlk⟩ : ∃ s, L[i]? = some s := ⟨L[i]'(by rw [HL.out.len]; exact hlt), List.getElem?_eq_getElem _⟩
            have cI : wr.cell? ⟨g, i, none⟩ = some (.string lk) := by
              rw [(bcell hbk).1 _ _ (lt_of_cell ((HCE.out i (by omega)).trans (strs_has hlk))), HCE.out i (by omega)]
              exact strs_has hlk
            have HNX : Hid (isIn L x (i + 1) = (isIn L x i || decide (lk = x))) := by
              unfold Hid
              rw [isIn, hlk]
              simp
            obtain ⟨bb, HBB⟩ : ∃ y, Hid (isIn L x i = y) := ⟨_, rfl⟩
            rw [HBB.out] at HNX ⊢
            have HBK : Hid (Below w2.heap.size w2 wr) := hbk
            clear hlk hbk
            cases bb with
            | true =>
              go_wp2_with fail
              go_roundw
              case rel => exact ⟨i + 1, by omega, by go_num, by rw [HNX.out]; simp, by first | exact HBK.out | exact HBK.out.drew⟩
              case measure => simp [intOf]; omega
            | false =>
              by_cases elk : lk = x
              · have qe : (lk.toList == x.toList) = true := by rw [beq_str]; simp [elk]
                have HEL : Hid (lk = x) := elk
                clear elk
                go_wp2_with fail
                go_roundw
                case rel => exact ⟨i + 1, by omega, by go_num, by rw [HNX.out, HEL.out]; simp, by first | exact HBK.out | exact HBK.out.drew⟩
                case measure => simp [intOf]; omega
              · have qe : (lk.toList == x.toList) = false := by rw [beq_str]; simp [elk]
                go_wp2_with fail
                go_roundw
                case rel => exact ⟨i + 1, by omega, by go_num, by rw [HNX.out]; simp [elk], by first | exact HBK.out | exact HBK.out.drew⟩
                case measure => simp [intOf]; omega
          · have e4 : i = 3 := by omega
            subst e4
            have HBW : Hid (Below w.heap.size w wr) := HB2.out.trans (hbk.mono HB2.out.size)
            obtain ⟨q, hq⟩ := HL.out.some (by omega)
            have HC := comp_names hq (by rw [HL.out.len]; omega) (fun s hs => (HL.out.tx s hs).2) (by omega) wr
            have HLG : Hid (∀ R, IsLeast R (langB q.lang) → R.accepts (notesOf x) = isIn L x 3) := fun R hR => by
              rw [hR.lang _ (notes_of HX.out), Bool.eq_iff_iff, langB_iff, hq.lang]
              have := isIn_all (L := L) (fun s hs => (HL.out.tx s hs).1) HX.out
              rw [HL.out.len] at this
              exact this.symm
            generalize langB q.lang = LL at HC HLG
            obtain ⟨bb, HBB⟩ : ∃ y, Hid (isIn L x 3 = y) := ⟨_, rfl⟩
            rw [HBB.out] at HLG ⊢
            clear hq hbk HB2 HBB HCE HL
            go_wp2_with fail
            refine HC.mono ?_
            clear HC
            rintro e w3 ⟨hB3, R, V, hR, hRd, rfl, hT, hF⟩
            have hs3 := hB3.size
            go_upto_region 24 with fail
            obtain ⟨W3, hW3⟩ : ∃ W, W = w3.alloc (.cells #[.slice (some ⟨V.ba, V.oa, none⟩) R.n V.ca, .slice (some ⟨V.bn, V.on, none⟩) R.n V.cn] 30) := ⟨_, rfl⟩
            have bW3 : Below w3.heap.size w3 W3 := by rw [hW3]; exact (Below.refl _ _).alloc (Nat.le_refl _) _
            have qW3 : W3.heap[w3.heap.size]? = some (.cells #[.slice (some ⟨V.ba, V.oa, none⟩) R.n V.ca, .slice (some ⟨V.bn, V.on, none⟩) R.n V.cn] 30 (0, 0)) := by rw [hW3]; exact heap_at_new rfl
            rw [← hW3]
            clear hW3
            obtain ⟨x0, x1, _, _⟩ := cell_two qW3
            have HR := run_ok V R x W3 (hR.isOk hRd) (hT.below bW3) HX.out hx1
            rw [HLG.out R hR] at HR
            have HBF : Hid (Below w.heap.size w W3) := HBW.out.trans ((hB3.trans (bW3.mono hs3)).mono HBW.out.size)
            clear hT hF hR hB3 bW3 HLG qW3 HBW
            go_wp2_with fail
            refine HR.mono ?_
            clear HR
            rintro e w4 ⟨rfl, hB4⟩
            have HF : Hid (Below w.heap.size w w4) := HBF.out.trans (hB4.mono HBF.out.size)
            clear hB4 HBF x0 x1
            cases bb
            all_goals
              go_wp2_with fail
              go_ret
              exact ⟨rfl, HF.out⟩
      · obtain ⟨x, rfl⟩ : ∃ x, x = xt := ⟨_, rfl⟩
        have HX : Hid (IsText x) := HXT.out
        have hx1 := hxs
        have hq0 : ((pa : Int) == 0) = false := by simp; omega
        clear HPC
        go_wp2_with fail
        refine HCP.mono ?_
        clear HCP
        rintro e w' ⟨rfl, hw'⟩
        obtain rfl : w2 = w' := hw'.symm
        go_wp2_with fail
        go_loopw [13, 14] (fun b' i' wk => ∃ i : Nat, i ≤ 3 ∧ i' = .int .i64 (i : Int) ∧ b' = .bool (isIn L x i) ∧ Below w2.heap.size w2 wk) (fun _ i' _ => 3 - (intOf i').toNat)
        case atStart => exact ⟨0, by omega, rfl, rfl, Below.refl _ _⟩
        case round =>
          obtain ⟨i, hi, rfl, rfl, hbk⟩ := hrel
          by_cases hlt : i < 3
          · obtain ⟨lk, hlk⟩ : ∃ s, L[i]? = some s := ⟨L[i]'(by rw [HL.out.len]; exact hlt), List.getElem?_eq_getElem _⟩
            have cI : wr.cell? ⟨g, i, none⟩ = some (.string lk) := by
              rw [(bcell hbk).1 _ _ (lt_of_cell ((HCE.out i (by omega)).trans (strs_has hlk))), HCE.out i (by omega)]
              exact strs_has hlk
            have HNX : Hid (isIn L x (i + 1) = (isIn L x i || decide (lk = x))) := by
              unfold Hid
              rw [isIn, hlk]
              simp
            obtain ⟨bb, HBB⟩ : ∃ y, Hid (isIn L x i = y) := ⟨_, rfl⟩
            rw [HBB.out] at HNX ⊢
            have HBK : Hid (Below w2.heap.size w2 wr) := hbk
            clear hlk hbk
            cases bb with
            | true =>
              go_wp2_with fail
              go_roundw
              case rel => exact ⟨i + 1, by omega, by go_num, by rw [HNX.out]; simp, by first | exact HBK.out | exact HBK.out.drew⟩
              case measure => simp [intOf]; omega
            | false =>
              by_cases elk : lk = x
              · have qe : (lk.toList == x.toList) = true := by rw [beq_str]; simp [elk]
                have HEL : Hid (lk = x) := elk
                clear elk
                go_wp2_with fail
                go_roundw
                case rel => exact ⟨i + 1, by omega, by go_num, by rw [HNX.out, HEL.out]; simp, by first | exact HBK.out | exact HBK.out.drew⟩
                case measure => simp [intOf]; omega
              · have qe : (lk.toList == x.toList) = false := by rw [beq_str]; simp [elk]
                go_wp2_with fail
                go_roundw
                case rel => exact ⟨i + 1, by omega, by go_num, by rw [HNX.out]; simp [elk], by first | exact HBK.out | exact HBK.out.drew⟩
                case measure => simp [intOf]; omega
          · have e4 : i = 3 := by omega
            subst e4
            have HBW : Hid (Below w.heap.size w wr) := HB2.out.trans (hbk.mono HB2.out.size)
            obtain ⟨q, hq⟩ := HL.out.some (by omega)
            have HC := comp_names hq (by rw [HL.out.len]; omega) (fun s hs => (HL.out.tx s hs).2) (by omega) wr
            have HLG : Hid (∀ R, IsLeast R (langB q.lang) → R.accepts (notesOf x) = isIn L x 3) := fun R hR => by
              rw [hR.lang _ (notes_of HX.out), Bool.eq_iff_iff, langB_iff, hq.lang]
              have := isIn_all (L := L) (fun s hs => (HL.out.tx s hs).1) HX.out
              rw [HL.out.len] at this
              exact this.symm
            generalize langB q.lang = LL at HC HLG
            obtain ⟨bb, HBB⟩ : ∃ y, Hid (isIn L x 3 = y) := ⟨_, rfl⟩
            rw [HBB.out] at HLG ⊢
            clear hq hbk HB2 HBB HCE HL
            go_wp2_with fail
            refine HC.mono ?_
            clear HC
            rintro e w3 ⟨hB3, R, V, hR, hRd, rfl, hT, hF⟩
            have hs3 := hB3.size
            go_upto_region 24 with fail
            obtain ⟨W3, hW3⟩ : ∃ W, W = w3.alloc (.cells #[.slice (some ⟨V.ba, V.oa, none⟩) R.n V.ca, .slice (some ⟨V.bn, V.on, none⟩) R.n V.cn] 30) := ⟨_, rfl⟩
            have bW3 : Below w3.heap.size w3 W3 := by rw [hW3]; exact (Below.refl _ _).alloc (Nat.le_refl _) _
            have qW3 : W3.heap[w3.heap.size]? = some (.cells #[.slice (some ⟨V.ba, V.oa, none⟩) R.n V.ca, .slice (some ⟨V.bn, V.on, none⟩) R.n V.cn] 30 (0, 0)) := by rw [hW3]; exact heap_at_new rfl
            rw [← hW3]
            clear hW3
            obtain ⟨x0, x1, _, _⟩ := cell_two qW3
            have HR := run_ok V R x W3 (hR.isOk hRd) (hT.below bW3) HX.out hx1
            rw [HLG.out R hR] at HR
            have HBF : Hid (Below w.heap.size w W3) := HBW.out.trans ((hB3.trans (bW3.mono hs3)).mono HBW.out.size)
            clear hT hF hR hB3 bW3 HLG qW3 HBW
            go_wp2_with fail
            refine HR.mono ?_
            clear HR
            rintro e w4 ⟨rfl, hB4⟩
            have HF : Hid (Below w.heap.size w w4) := HBF.out.trans (hB4.mono HBF.out.size)
            clear hB4 HBF x0 x1
            cases bb
            all_goals
              go_wp2_with fail
              go_ret
              exact ⟨rfl, HF.out⟩
end Go.Proofs.Ytpngikmcjkjdaab

namespace Go.Proofs.Ytpngikmcjkjdaab
open Go.RowKit
set_option linter.unusedVariables false
def IsRow (k : IntKind) (w : World) (a : Option Addr) (len cap : Nat) (zs : List Int) : Prop :=
  (a = none ∧ len = 0 ∧ cap = 0 ∧ zs = []) ∨
  ∃ x, a = some x ∧ len ≤ cap ∧ cap ≤ maxLen ∧ zs.length = cap ∧ (∀ i, i < zs.length → w.cell? (x.add i) = some (.int k (zs.getD i 0))) ∧ ∀ n ∈ zs, (Lit.int k n).wf = true
theorem wf_i64 {n : Int} (h : (Lit.int .i64 n).wf = true) : -9223372036854775808 ≤ n ∧ n ≤ 9223372036854775807 := bounds_i64 h
theorem codeAt_of_row {w : World} {a : Option Addr} {len cap : Nat} {zs : List Int} (h : IsRow .i64 w a len cap zs) : CodeAt w a len (fun t => zs.getD t 0) := by
  rcases h with ⟨rfl, rfl, rfl, rfl⟩ | ⟨x, rfl, hl, hm, hz, hc, hw⟩
  · exact ⟨by omega, fun t ht => absurd ht (by omega), fun t ht => absurd ht (by omega)⟩
  · unfold maxLen at hm
    refine ⟨by omega, fun t ht => ?_, fun t ht => ?_⟩
    · obtain ⟨b, off, rfl, hcc⟩ := Go.ints_at hc (by omega)
      exact ⟨b, off, rfl, hcc t (by omega)⟩
    · have : zs.getD t 0 ∈ zs := by
        rw [List.getD_eq_getElem?_getD, List.getElem?_eq_getElem (show t < zs.length by omega)]; exact List.getElem_mem _
      exact wf_i64 (hw _ this)
end Go.Proofs.Ytpngikmcjkjdaab
