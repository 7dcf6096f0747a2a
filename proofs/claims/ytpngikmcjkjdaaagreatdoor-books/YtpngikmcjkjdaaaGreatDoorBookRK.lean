import Derived.Test.YtpngikmcjkjdaaaGreatDoorBookR
namespace Go.Proofs.YtpngikmcjkjdaaaGreatDoor
open Go.RowKit
set_option linter.unusedVariables false
set_option linter.unusedSimpArgs false

/-- The next note of a tune behind a beginning. -/
def nextN (t : ByteArray) (m : Nat) : Nat := ((lsb t).getD m 0).toNat - 97
/-- The tune goes on behind the beginning, with that note. -/
def GoesOn (t q : ByteArray) (c : Nat) : Prop := q.size < t.size ∧ t.extract 0 q.size = q ∧ nextN t q.size = c
/-- How many notes have been met. -/
def Cnt (f : Nat → Bool) (k : Nat) : Prop := (k = 0 ∧ ∀ c, f c = false) ∨ (k = 1 ∧ ∃ d, ∀ c, f c = true ↔ c = d) ∨ (2 ≤ k ∧ ∃ c d, c ≠ d ∧ f c = true ∧ f d = true)
theorem Cnt.add {f : Nat → Bool} {k c : Nat} (h : Cnt f k) (hc : f c = false) : Cnt (fun x => if x = c then true else f x) (k + 1) := by
  rcases h with ⟨rfl, h⟩ | ⟨rfl, d, h⟩ | ⟨hk, a, b, h1, h2, h3⟩
  · refine .inr (.inl ⟨rfl, c, fun x => ?_⟩)
    by_cases e : x = c <;> simp [e, h]
  · refine .inr (.inr ⟨by omega, c, d, ?_, by simp, ?_⟩)
    · rintro rfl
      rw [(h c).2 rfl] at hc; cases hc
    · have : f d = true := (h d).2 rfl
      by_cases e : d = c <;> simp [e, this]
  · refine .inr (.inr ⟨by omega, a, b, h1, ?_, ?_⟩)
    · by_cases e : a = c <;> simp [e, h2]
    · by_cases e : b = c <;> simp [e, h3]
theorem Cnt.two {f : Nat → Bool} {k : Nat} (h : Cnt f k) : 2 ≤ k ↔ ∃ c d, c ≠ d ∧ f c = true ∧ f d = true := by
  constructor
  · intro hk
    rcases h with ⟨rfl, h⟩ | ⟨rfl, d, h⟩ | ⟨_, h⟩
    · omega
    · omega
    · exact h
  · rintro ⟨a, b, h1, h2, h3⟩
    rcases h with ⟨rfl, h⟩ | ⟨rfl, d, h⟩ | ⟨h, _⟩
    · rw [h a] at h2; cases h2
    · exact absurd (((h a).1 h2).trans ((h b).1 h3).symm) h1
    · exact h
theorem goes2_iff {t : Nat → ByteArray} {n : Nat} {q : ByteArray} (htx : ∀ j, j < n → IsText (t j)) {f : Nat → Bool} (hf : ∀ c, f c = true ↔ ∃ j, j < n ∧ GoesOn (t j) q c) :
    (∃ c d, c ≠ d ∧ f c = true ∧ f d = true) ↔ Goes2 (fun j => lsb (t j)) n (lsb q) := by
  have hto : ∀ j, j < n → ∀ c, GoesOn (t j) q c → (lsb q).length < (lsb (t j)).length ∧ (lsb (t j)).take (lsb q).length = lsb q := by
    intro j hj c ⟨h1, h2, h3⟩
    refine ⟨by rw [lsb_size, lsb_size]; exact h1, ?_⟩
    rw [lsb_size, ← lsb_extract, h2]
  have hback : ∀ j, j < n → (lsb q).length < (lsb (t j)).length → (lsb (t j)).take (lsb q).length = lsb q → GoesOn (t j) q (nextN (t j) q.size) := by
    intro j hj h1 h2
    refine ⟨by rw [lsb_size, lsb_size] at h1; exact h1, lsb_inj ?_, rfl⟩
    rw [lsb_extract, ← lsb_size q, h2]
  have hge : ∀ j, j < n → (lsb q).length < (lsb (t j)).length → 97 ≤ ((lsb (t j)).getD (lsb q).length 0).toNat := by
    intro j hj h1
    rw [List.getD_eq_getElem?_getD, List.getElem?_eq_getElem h1]
    exact (htx j hj _ (List.getElem_mem h1)).1
  constructor
  · rintro ⟨c, d, h1, h2, h3⟩
    obtain ⟨j, hj, gj⟩ := (hf c).1 h2
    obtain ⟨k, hk, gk⟩ := (hf d).1 h3
    obtain ⟨j1, j2⟩ := hto j hj c gj
    obtain ⟨k1, k2⟩ := hto k hk d gk
    refine ⟨j, k, hj, hk, j1, k1, j2, k2, fun e => h1 ?_⟩
    have e1 := gj.2.2
    have e2 := gk.2.2
    unfold nextN at e1 e2
    rw [← lsb_size] at e1 e2
    rw [← e1, ← e2, e]
  · rintro ⟨j, k, hj, hk, j1, k1, j2, k2, hd⟩
    refine ⟨_, _, fun e => hd ?_, (hf _).2 ⟨j, hj, hback j hj j1 j2⟩, (hf _).2 ⟨k, hk, hback k hk k1 k2⟩⟩
    have g1 := hge j hj j1
    have g2 := hge k hk k1
    unfold nextN at e
    rw [← lsb_size] at e
    show (lsb (t j)).getD (lsb q).length 0 = (lsb (t k)).getD (lsb q).length 0
    exact UInt8.toNat_inj.1 (by omega)
def KnotP (t : Nat → ByteArray) (n : Nat) (q : ByteArray) : Prop := (∃ j, j < n ∧ t j = q) ∨ q = ByteArray.empty ∨ Goes2 (fun j => lsb (t j)) n (lsb q)
open Classical in
noncomputable def knotB (t : Nat → ByteArray) (n : Nat) (q : ByteArray) : Bool := decide (KnotP t n q)
open Classical in
theorem knotB_iff {t : Nat → ByteArray} {n : Nat} {q : ByteArray} : knotB t n q = true ↔ KnotP t n q := by rw [knotB, decide_eq_true_iff]
theorem knotB_no {t : Nat → ByteArray} {n : Nat} {q : ByteArray} (h : ¬ KnotP t n q) : knotB t n q = false := by
  rw [Bool.eq_false_iff]; exact fun h' => h (knotB_iff.1 h')
def bools8v (f : Nat → Bool) : Array Value := #[.bool (f 0), .bool (f 1), .bool (f 2), .bool (f 3), .bool (f 4), .bool (f 5), .bool (f 6), .bool (f 7)]

set_option maxRecDepth 20000 in
set_option maxHeartbeats 4000000 in
theorem rknot_ok (w : World) (b n : Nat) (ry : Value) (t : Nat → ByteArray) (cy : Nat → Value) (q : ByteArray) (h : ByAt w b ry t n cy) (hn : n ≤ 60) (htu : ∀ j, j < n → tuneB (t j) = true) (hq : q.size ≤ 12) :
    Calls Tryz.prog 89 #[.pointer (some ⟨b, 0, none⟩), .string q] w fun e w' => e = .returned (.bool (knotB t n q)) ∧ Below w.heap.size w w' := by
  have HH := rhas_ok w b n ry t cy q h hn
  have c0 := h.row
  obtain ⟨a, cap, rfl, hsh⟩ := h.shape
  have htz : ∀ j, j < n → (t j).size ≤ 12 := fun j hj => by have := htu j hj; simp [tuneB] at this; exact this.1
  have htx : ∀ j, j < n → IsText (t j) := fun j hj => by have := htu j hj; simp [tuneB] at this; exact (textTo_isText _).1 this.2
  by_cases hem : q = ByteArray.empty
  · have hk : knotB t n q = true := knotB_iff.2 (.inr (.inl hem))
    rw [hk]
    have q1 : q.toList.isEmpty = true := by rw [hem, ByteArray.toList_eq]; rfl
    obtain ⟨bb, HBB⟩ : ∃ x, Hid (hasB t n q = x) := ⟨_, rfl⟩
    rw [HBB.out] at HH
    clear h hsh hem hk htz htx htu HBB
    go_enter Tryz.func89, Tryz.ntmps89
    go_wp2_with (go_at_call 84; refine HH.mono ?_; rintro e w' ⟨rfl, hw'⟩; obtain rfl : w = w' := hw'.symm)
    go_ret
    exact ⟨rfl, Below.refl _ _⟩
  · have q1 : q.toList.isEmpty = false := by
      rw [Bool.eq_false_iff, ne_eq, List.isEmpty_iff, ByteArray.toList_eq]
      exact fun e => hem (lsb_inj e)
    cases hhb : hasB t n q with
    | true =>
      rw [hhb] at HH
      have hk : knotB t n q = true := knotB_iff.2 (.inl (hasB_iff.1 hhb))
      rw [hk]
      clear h hsh hem hk htz htx htu hhb
      go_enter Tryz.func89, Tryz.ntmps89
      go_wp2_with (go_at_call 84; refine HH.mono ?_; rintro e w' ⟨rfl, hw'⟩; obtain rfl : w = w' := hw'.symm)
      go_ret
      exact ⟨rfl, Below.refl _ _⟩
    | false =>
      rw [hhb] at HH
      have HK : Hid (knotB t n q = true ↔ Goes2 (fun j => lsb (t j)) n (lsb q)) := by
        unfold Hid
        rw [knotB_iff, KnotP]
        constructor
        · rintro (h' | h' | h')
          · rw [hasB_iff.2 h'] at hhb; cases hhb
          · exact absurd h' hem
          · exact h'
        · exact fun h' => .inr (.inr h')
      obtain ⟨kb, HKB⟩ : ∃ x, Hid (knotB t n q = x) := ⟨_, rfl⟩
      rw [HKB.out] at HK ⊢
      have HG2 := fun f hf => goes2_iff (q := q) htx (f := f) hf
      have HTX : Hid (∀ j, j < n → IsText (t j)) := htx
      have HTZ : Hid (∀ j, j < n → (t j).size ≤ 12) := htz
      clear h hem htz htx htu hhb HKB
      go_enter Tryz.func89, Tryz.ntmps89
      go_wp2_with (go_at_call 84; refine HH.mono ?_; rintro e w' ⟨rfl, hw'⟩; obtain rfl : w = w' := hw'.symm)
      go_loopw [7, 8] (fun k' i' wr => ∃ (i k : Nat) (f : Nat → Bool), i ≤ n ∧ k ≤ i ∧ k' = .int .i64 (k : Int) ∧ i' = .int .i64 (i : Int) ∧ Below w.heap.size w wr ∧ wr.rowIs w.heap.size 128 8 (fun c => .bool (f c)) ∧ Cnt f k ∧ ∀ c, f c = true ↔ ∃ j, j < i ∧ GoesOn (t j) q c) (fun _ i' _ => n - (intOf i').toNat)
      case atStart =>
        refine ⟨0, 0, fun _ => false, by omega, by omega, rfl, rfl, (Below.refl _ _).alloc (Nat.le_refl _) _, ⟨_, heap_at_new rfl, rfl, fun i hi => ?_⟩, .inl ⟨rfl, fun _ => rfl⟩, fun c => by simp⟩
        rcases (show i = 0 ∨ i = 1 ∨ i = 2 ∨ i = 3 ∨ i = 4 ∨ i = 5 ∨ i = 6 ∨ i = 7 by omega) with rfl | rfl | rfl | rfl | rfl | rfl | rfl | rfl <;> rfl
      case round =>
        obtain ⟨i, k, f, hi, hki, rfl, rfl, hb, hr, hcn, hf⟩ := hrel
        have c1 : wr.cell? ⟨b, 0, none⟩ = some (.slice a n cap) := (bcell hb).1 b 0 (lt_of_cell c0) |>.trans c0
        have HB : Hid (Below w.heap.size w wr) := hb
        have HR : Hid (wr.rowIs w.heap.size 128 8 (fun c => .bool (f c))) := hr
        have HCN : Hid (Cnt f k) := hcn
        have HF : Hid (∀ c, f c = true ↔ ∃ j, j < i ∧ GoesOn (t j) q c) := hf
        clear hcn hf
        by_cases hlt : i < n
        · obtain ⟨g, rfl, hc⟩ := hsh (by omega)
          have c2 : wr.cell? ⟨g, i, none⟩ = some (.string (t i)) := (bcell hb).1 g i (lt_of_cell (hc i hlt)) |>.trans (hc i hlt)
          have qi : (i : Int) < (n : Int) := by omega
          have HNX : Hid (∀ (f2 : Nat → Bool), (∀ c, f2 c = true ↔ f c = true ∨ GoesOn (t i) q c) → ∀ c, f2 c = true ↔ ∃ j, j < i + 1 ∧ GoesOn (t j) q c) := by
            intro f2 h2 c
            rw [h2, HF.out]
            constructor
            · rintro (⟨j, hj, h'⟩ | h')
              · exact ⟨j, by omega, h'⟩
              · exact ⟨i, by omega, h'⟩
            · rintro ⟨j, hj, h'⟩
              by_cases e : j = i
              · subst e; exact .inr h'
              · exact .inl ⟨j, by omega, h'⟩
          have hz := HTZ.out i hlt
          by_cases hl : q.size < (t i).size
          · have q2 : (q.size : Int) < ((t i).size : Int) := by omega
            by_cases hpre : (t i).extract 0 q.size = q
            · have q3 : (((t i).extract 0 q.size).toList == q.toList) = true := by rw [beq_str]; simp [hpre]
              have hnt := HTX.out i hlt (t i)[q.size] (by
                rw [← getD_byte (t i) q.size hl, List.getD_eq_getElem?_getD, List.getElem?_eq_getElem (by rw [Array.length_toList]; exact hl)]
                exact List.getElem_mem _)
              obtain ⟨c, HC⟩ : ∃ c, Hid (nextN (t i) q.size = c) := ⟨_, rfl⟩
              have hcv : (t i)[q.size].toNat = c + 97 ∧ c < 8 := by
                have := HC.out
                unfold nextN at this
                rw [lsb_at (t i) q.size hl] at this
                omega
              have hw8 : IntKind.u8.wrap (((t i)[q.size].toNat : Int) - 97) = (c : Int) := by rw [hcv.1, IntKind.wrap_u8]; omega
              have c3 := HR.out.cell hcv.2
              have f3 := HR.out.frozen c
              have hc8 : (c : Int) < 8 := by omega
              have hgo : GoesOn (t i) q c := ⟨hl, hpre, HC.out⟩
              have HGO : Hid (∀ d, GoesOn (t i) q d ↔ d = c) := fun d => ⟨fun h' => h'.2.2.symm.trans HC.out, fun e => by rw [e]; exact hgo⟩
              obtain ⟨bf, HBF⟩ : ∃ x, Hid (f c = x) := ⟨_, rfl⟩
              rw [HBF.out] at c3
              have hcl := hcv.2
              clear hcv hgo hnt hpre hc hsh c0 hb hr HH HG2
              cases bf
              · go_wp2_with fail
                go_roundw
                case rel => exact ⟨i + 1, k + 1, fun x => if x = c then true else f x, by omega, by omega, by go_num, by go_num, HB.out.setCell (p := ⟨w.heap.size, c, none⟩) (Nat.le_refl _) _, (HR.out.set c (.bool true)).congr (fun j _ => by by_cases e : j = c <;> simp [e]), HCN.out.add HBF.out, HNX.out _ (fun d => by
                  by_cases e : d = c
                  · simp [e, HGO.out]
                  · simp [e, HGO.out])⟩
                case measure => simp [intOf]; omega
              · go_wp2_with fail
                go_roundw
                case rel => exact ⟨i + 1, k, f, by omega, by omega, rfl, by go_num, HB.out, HR.out, HCN.out, HNX.out f (fun d => by
                  constructor
                  · exact fun h' => .inl h'
                  · rintro (h' | h')
                    · exact h'
                    · rw [(HGO.out d).1 h']; exact HBF.out)⟩
                case measure => simp [intOf]; omega
            · have q3 : (((t i).extract 0 q.size).toList == q.toList) = false := by rw [beq_str]; simp [hpre]
              have HNO : Hid (∀ d, ¬ GoesOn (t i) q d) := fun d h' => hpre h'.2.1
              clear hpre hc hsh c0 hb hr HH HG2
              go_wp2_with fail
              go_roundw
              case rel => exact ⟨i + 1, k, f, by omega, by omega, rfl, by go_num, HB.out, HR.out, HCN.out, HNX.out f (fun d => ⟨fun h' => .inl h', fun h' => h'.elim id (fun h2 => absurd h2 (HNO.out d))⟩)⟩
              case measure => simp [intOf]; omega
          · have q2 : ¬ (q.size : Int) < ((t i).size : Int) := by omega
            have HNO : Hid (∀ d, ¬ GoesOn (t i) q d) := fun d h' => hl h'.1
            clear hc hsh c0 hb hr HH HG2
            go_wp2_with fail
            go_roundw
            case rel => exact ⟨i + 1, k, f, by omega, by omega, rfl, by go_num, HB.out, HR.out, HCN.out, HNX.out f (fun d => ⟨fun h' => .inl h', fun h' => h'.elim id (fun h2 => absurd h2 (HNO.out d))⟩)⟩
            case measure => simp [intOf]; omega
        · have e : i = n := by omega
          have qi : ¬ (i : Int) < (n : Int) := by omega
          subst e
          have hfin : kb = decide ((2 : Int) ≤ (k : Int)) := by
            have h1 := HCN.out.two.trans (HG2 f HF.out)
            have h2 := HK.out
            rw [← h1] at h2
            cases kb with
            | true => have := h2.1 rfl; simp; omega
            | false =>
              symm
              rw [decide_eq_false_iff_not]
              intro h'
              have := h2.2 (by omega)
              cases this
          have HFI : Hid (kb = decide ((2 : Int) ≤ (k : Int))) := hfin
          clear hfin hsh c0 hb hr HH HG2
          go_wp2_with fail
          go_ret
          exact ⟨ret_bool HFI.out.symm, HB.out⟩

/-! The walk of Knots. -/
set_option maxRecDepth 20000 in
set_option maxHeartbeats 4000000 in
theorem rknots_ok (w : World) (b n : Nat) (ry : Value) (t : Nat → ByteArray) (cy : Nat → Value) (h : ByAt w b ry t n cy) (hn : n ≤ 60) (htu : ∀ j, j < n → tuneB (t j) = true) (hsr : SrtB t n) :
    Calls Tryz.prog 50 #[.pointer (some ⟨b, 0, none⟩)] w fun e w' => Below w.heap.size w w' ∧ ∃ v, e = .returned v ∧ w'.ownsRow w.heap.size 9 1 v (knots t n n).length (strs (knots t n n)) := by
  obtain ⟨i0, hi0, hz0, hz01, hz02⟩ := info_parts Tryz.infoS
  have hz : ∀ j, j < n → (t j).size ≤ 12 := fun j hj => by have := htu j hj; simp [tuneB] at this; exact this.1
  have c0 := h.row
  have HFR : Hid (ByAt w b ry t n cy) := h
  obtain ⟨a, cap, rfl, hsh⟩ := h.shape
  have HSR : Hid (SrtB t n) := hsr
  have HTU : Hid (∀ j, j < n → tuneB (t j) = true) := htu
  clear hsr htu
  go_enter Tryz.func50, Tryz.ntmps50
  go_wp2_with fail
  go_loopw [3, 4, 5] (fun v l' a' wr => ∃ i : Nat, i ≤ n ∧ a' = .int .i64 (i : Int) ∧ l' = .string (if i = 0 then ByteArray.empty else t (i - 1)) ∧ Below w.heap.size w wr ∧ wr.ownsRow w.heap.size 9 1 v (knots t n i).length (strs (knots t n i))) (fun _ _ a' _ => n - (intOf a').toNat)
  case atStart => exact ⟨0, by omega, rfl, rfl, (Below.refl _ _).alloc (Nat.le_refl _) _, by simp [knots, strs], .inr ⟨_, _, _, rfl, Nat.le_refl _, heap_at_new rfl, by simp [knots], by unfold maxLen; omega, by simp, by simp [knots, strs]; rfl⟩⟩
  case round =>
    obtain ⟨i, hi, rfl, rfl, hb, hown⟩ := hrel
    have c1 : wr.cell? ⟨b, 0, none⟩ = some (.slice a n cap) := (bcell hb).1 b 0 (lt_of_cell c0) |>.trans c0
    have HB : Hid (Below w.heap.size w wr) := hb
    obtain ⟨la, HLA⟩ : ∃ x, Hid (x = if i = 0 then ByteArray.empty else t (i - 1)) := ⟨_, rfl⟩
    rw [← HLA.out]
    by_cases hlt : i < n
    · obtain ⟨g, rfl, hc⟩ := hsh (by omega)
      have c2 : wr.cell? ⟨g, i, none⟩ = some (.string (t i)) := (bcell hb).1 g i (lt_of_cell (hc i hlt)) |>.trans (hc i hlt)
      have q1 : (i : Int) < (n : Int) := by omega
      have z0 := hz i hlt
      have zla : la.size ≤ 12 := by
        rw [HLA.out]
        split
        · simp
        · exact hz (i - 1) (by omega)
      have HO : Hid (wr.ownsRow w.heap.size 9 1 u3 (knots t n i).length (strs (knots t n i))) := hown
      have HHZ : Hid (∀ j, j < n → (t j).size ≤ 12) := hz
      clear hb hown hc hsh hz c0 h
      go_wp2_with fail
      go_loopw [3, 7] (fun v l' wi => ∃ m : Nat, m ≤ (t i).size ∧ l' = .int .i64 ((m : Int) + 1) ∧ Below w.heap.size w wi ∧ wi.ownsRow w.heap.size 9 1 v (knots t n i ++ kin t n i m).length (strs (knots t n i ++ kin t n i m))) (fun _ l' _ => 20 - (intOf l').toNat)
      case atStart =>
        refine ⟨0, by omega, rfl, HB.out, ?_⟩
        rw [kin, List.append_nil]
        exact HO.out
      case round =>
        obtain ⟨m, hm, rfl, hb, hown⟩ := hrel
        rename World => wi
        have hln : (knots t n i ++ kin t n i m).length ≤ 1000 := by
          have a1 := knots_len t n HHZ.out i (by omega)
          have a2 := kin_len t n i m
          rw [List.length_append]; omega
        have hbs := hb.size
        have HBI : Hid (Below w.heap.size w wi) := hb
        have HOI : Hid (wi.ownsRow w.heap.size 9 1 u3 (knots t n i ++ kin t n i m).length (strs (knots t n i ++ kin t n i m))) := hown
        by_cases hms : m < (t i).size
        · have q2 : (m : Int) + 1 ≤ ((t i).size : Int) := by omega
          have hez : ((t i).extract 0 (m + 1)).size ≤ 12 := by rw [← lsb_size, lsb_extract, List.length_take, lsb_size]; omega
          have HALL : ∀ wj, (∃ q, wj = wi.drewN q) → (Calls Tryz.prog 89 #[.pointer (some ⟨b, 0, none⟩), .string ((t i).extract 0 (m + 1))] wj fun e w' => e = .returned (.bool (knotB t n ((t i).extract 0 (m + 1)))) ∧ Below wj.heap.size wj w') ∧ (∀ w2, Below wj.heap.size wj w2 → (w2.alloc (.cells #[.string ((t i).extract 0 (m + 1))] 9)).ownsRow w.heap.size 9 1 u3 (knots t n i ++ kin t n i m).length (strs (knots t n i ++ kin t n i m)) ∧ Below w.heap.size w w2 ∧ w.heap.size ≤ w2.heap.size) ∧ wj.ownsRow w.heap.size 9 1 u3 (knots t n i ++ kin t n i m).length (strs (knots t n i ++ kin t n i m)) := by
            rintro wj ⟨q, rfl⟩
            have hbj := below_drewN HBI.out q
            have hoj := ownsRow_below HOI.out (below_drewN (Below.refl _ _) q)
            refine ⟨rknot_ok _ b n (.slice (some ⟨g, 0, none⟩) n cap) t cy ((t i).extract 0 (m + 1)) (HFR.out.below hbj) hn HTU.out hez, fun w2 h2 => ?_, hoj⟩
            have hb2 := hbj.trans (h2.mono hbj.size)
            exact ⟨(ownsRow_below hoj h2).alloc _, hb2, hb2.size⟩
          have HOW : Hid (∀ x, (u3 : Value).ownBlock = some x → w.heap.size ≤ x) := fun x e => (hown.lt x e).1
          have HEL : Hid (isKnot t n i (m + 1) → (knots t n i ++ kin t n i m).length + 1 = (knots t n i ++ kin t n i (m + 1)).length) := fun hy => by rw [kin_yes hy]; simp only [List.length_append, List.length_singleton]; omega
          have hsd := shared_iff (t := t) (i := i) (m := m + 1) (by omega) (by omega) la HLA.out
          have href : known (fun j => lsb (t j)) i < m + 1 → (isKnot t n i (m + 1) ↔ KnotP t n ((t i).extract 0 (m + 1))) := fun hk => isKnot_ref HSR.out hlt (by omega) hk
          clear hb hown HO HB HFR hez
          by_cases hl : m + 1 ≤ la.size
          · have q3 : (m : Int) + 1 ≤ (la.size : Int) := by omega
            by_cases he : la.extract 0 (m + 1) = (t i).extract 0 (m + 1)
            · have q4 : ((la.extract 0 (m + 1)).toList == ((t i).extract 0 (m + 1)).toList) = true := by rw [beq_str]; simp [he]
              have HNO : Hid (¬ isKnot t n i (m + 1)) := fun hh => by have := hsd.1 ⟨hl, he⟩; have := hh.1; omega
              obtain ⟨kb, HKB⟩ : ∃ x, Hid (knotB t n ((t i).extract 0 (m + 1)) = x) := ⟨_, rfl⟩
              rw [HKB.out] at HALL
              clear hsd href he
              go_wp2_with fail
              go_quiet (fail)
              obtain ⟨wj, hj⟩ : ∃ wj, wj = wi.drewN nq := ⟨_, rfl⟩
              rw [← hj]
              obtain ⟨HKC, HNA, hoj⟩ := HALL wj ⟨nq, hj⟩
              have HOJ : Hid (wj.ownsRow w.heap.size 9 1 u3 (knots t n i ++ kin t n i m).length (strs (knots t n i ++ kin t n i m))) := hoj
              clear hj HALL hoj
              go_wp2_with (go_at_call 89; refine HKC.mono ?_; rintro e w2 ⟨rfl, hb2⟩; obtain ⟨hna, hbw, hs2⟩ := HNA w2 hb2; have HB2 : Hid (Below w.heap.size w w2) := hbw; have HBI2 : Hid (Below wj.heap.size wj w2) := hb2; clear hb2 hbw HNA)
              go_roundw
              case rel =>
                have ho := ownsRow_below HOJ.out HBI2.out
                rw [← kin_no HNO.out] at ho
                exact ⟨m + 1, by omega, by go_num, HB2.out, ho⟩
              case measure => simp [intOf]; omega
            · have q4 : ((la.extract 0 (m + 1)).toList == ((t i).extract 0 (m + 1)).toList) = false := by rw [beq_str]; simp [he]
              have HREF : Hid (isKnot t n i (m + 1) ↔ KnotP t n ((t i).extract 0 (m + 1))) := href (Nat.lt_of_not_le (fun hh => he (hsd.2 hh).2))
              clear hsd href he
              go_wp2_with fail
              go_quiet (fail)
              obtain ⟨wj, hj⟩ : ∃ wj, wj = wi.drewN nq := ⟨_, rfl⟩
              rw [← hj]
              obtain ⟨HKC, HNA, hoj⟩ := HALL wj ⟨nq, hj⟩
              have HOJ : Hid (wj.ownsRow w.heap.size 9 1 u3 (knots t n i ++ kin t n i m).length (strs (knots t n i ++ kin t n i m))) := hoj
              clear hj HALL hoj
              cases hkb : knotB t n ((t i).extract 0 (m + 1)) with
              | true =>
                have HYES : Hid (isKnot t n i (m + 1)) := HREF.out.2 (knotB_iff.1 hkb)
                rw [hkb] at HKC
                clear hkb
                go_wp2_with (first
                  | (go_at_call 89; refine HKC.mono ?_; rintro e w2 ⟨rfl, hb2⟩; obtain ⟨hna, hbw, hs2⟩ := HNA w2 hb2; have HB2 : Hid (Below w.heap.size w w2) := hbw; have HBI2 : Hid (Below wj.heap.size wj w2) := hb2; clear hb2 hbw HNA)
                  | (at_builtin; refine wpList_append_fresh _ rfl _ _ 56 rfl w.heap.size 9 i0 (.string ByteArray.empty) 1 16 Tryz.underlying56 hi0 hz0 hz01 hz02 rfl (by decide) _ ((knots t n i ++ kin t n i m).length) (strs (knots t n i ++ kin t n i m)) rfl hna ⟨w2.heap.size, 0, none⟩ 1 1 [.string ((t i).extract 0 (m + 1))] rfl rfl (cell_one_new _ _ _) (by intro u hu; simp at hu; subst hu; rfl) (by decide) (by unfold maxLen; omega) (by omega) (by simp; omega) ?_; intro gA capA wnA hown3 hgr hfr; have HOA : Hid (wnA.ownsRow w.heap.size 9 1 (.slice (some ⟨gA, 0, none⟩) (((knots t n i ++ kin t n i m).length) + 1) capA) (((knots t n i ++ kin t n i m).length) + 1) ((strs (knots t n i ++ kin t n i m)) ++ [.string ((t i).extract 0 (m + 1))])) := hown3; have HGA : Hid ((w2.alloc (.cells #[.string ((t i).extract 0 (m + 1))] 9)).grownBy wnA (u3).ownBlock) := hgr; have HFA : Hid ((u3).ownBlock = some gA ∨ gA = (w2.alloc (.cells #[.string ((t i).extract 0 (m + 1))] 9)).heap.size) := hfr; clear hown3 hgr hfr hna))
                go_roundw
                case rel =>
                  have ho := HOA.out
                  rw [strs_snoc, List.append_assoc, ← kin_yes HYES.out, HEL.out HYES.out] at ho
                  exact ⟨m + 1, by omega, by go_num, (HB2.out.alloc (by omega) _).grown HGA.out (by simp; omega) (fun x e => HOW.out x e), by
                    rw [show (knots t n i).length + (kin t n i m).length + 1 = (knots t n i ++ kin t n i (m + 1)).length by have := HEL.out HYES.out; rw [List.length_append] at this; exact this]
                    exact ho⟩
                case measure => simp [intOf]; omega
              | false =>
                have HNO : Hid (¬ isKnot t n i (m + 1)) := fun hh => by rw [knotB_iff.2 (HREF.out.1 hh)] at hkb; cases hkb
                rw [hkb] at HKC
                clear hkb
                go_wp2_with (go_at_call 89; refine HKC.mono ?_; rintro e w2 ⟨rfl, hb2⟩; obtain ⟨hna, hbw, hs2⟩ := HNA w2 hb2; have HB2 : Hid (Below w.heap.size w w2) := hbw; have HBI2 : Hid (Below wj.heap.size wj w2) := hb2; clear hb2 hbw HNA)
                go_roundw
                case rel =>
                  have ho := ownsRow_below HOJ.out HBI2.out
                  rw [← kin_no HNO.out] at ho
                  exact ⟨m + 1, by omega, by go_num, HB2.out, ho⟩
                case measure => simp [intOf]; omega

          · have q3 : decide ((m : Int) + 1 ≤ (la.size : Int)) = false := by simp; omega
            have HREF : Hid (isKnot t n i (m + 1) ↔ KnotP t n ((t i).extract 0 (m + 1))) := href (Nat.lt_of_not_le (fun hh => hl (hsd.2 hh).1))
            clear hsd href
            go_wp2_with fail
            go_quiet (fail)
            obtain ⟨wj, hj⟩ : ∃ wj, wj = wi.drewN nq := ⟨_, rfl⟩
            rw [← hj]
            obtain ⟨HKC, HNA, hoj⟩ := HALL wj ⟨nq, hj⟩
            have HOJ : Hid (wj.ownsRow w.heap.size 9 1 u3 (knots t n i ++ kin t n i m).length (strs (knots t n i ++ kin t n i m))) := hoj
            clear hj HALL hoj
            cases hkb : knotB t n ((t i).extract 0 (m + 1)) with
            | true =>
              have HYES : Hid (isKnot t n i (m + 1)) := HREF.out.2 (knotB_iff.1 hkb)
              rw [hkb] at HKC
              clear hkb
              go_wp2_with (first
                | (go_at_call 89; refine HKC.mono ?_; rintro e w2 ⟨rfl, hb2⟩; obtain ⟨hna, hbw, hs2⟩ := HNA w2 hb2; have HB2 : Hid (Below w.heap.size w w2) := hbw; have HBI2 : Hid (Below wj.heap.size wj w2) := hb2; clear hb2 hbw HNA)
                | (at_builtin; refine wpList_append_fresh _ rfl _ _ 56 rfl w.heap.size 9 i0 (.string ByteArray.empty) 1 16 Tryz.underlying56 hi0 hz0 hz01 hz02 rfl (by decide) _ ((knots t n i ++ kin t n i m).length) (strs (knots t n i ++ kin t n i m)) rfl hna ⟨w2.heap.size, 0, none⟩ 1 1 [.string ((t i).extract 0 (m + 1))] rfl rfl (cell_one_new _ _ _) (by intro u hu; simp at hu; subst hu; rfl) (by decide) (by unfold maxLen; omega) (by omega) (by simp; omega) ?_; intro gA capA wnA hown3 hgr hfr; have HOA : Hid (wnA.ownsRow w.heap.size 9 1 (.slice (some ⟨gA, 0, none⟩) (((knots t n i ++ kin t n i m).length) + 1) capA) (((knots t n i ++ kin t n i m).length) + 1) ((strs (knots t n i ++ kin t n i m)) ++ [.string ((t i).extract 0 (m + 1))])) := hown3; have HGA : Hid ((w2.alloc (.cells #[.string ((t i).extract 0 (m + 1))] 9)).grownBy wnA (u3).ownBlock) := hgr; have HFA : Hid ((u3).ownBlock = some gA ∨ gA = (w2.alloc (.cells #[.string ((t i).extract 0 (m + 1))] 9)).heap.size) := hfr; clear hown3 hgr hfr hna))
              go_roundw
              case rel =>
                have ho := HOA.out
                rw [strs_snoc, List.append_assoc, ← kin_yes HYES.out, HEL.out HYES.out] at ho
                exact ⟨m + 1, by omega, by go_num, (HB2.out.alloc (by omega) _).grown HGA.out (by simp; omega) (fun x e => HOW.out x e), by
                  rw [show (knots t n i).length + (kin t n i m).length + 1 = (knots t n i ++ kin t n i (m + 1)).length by have := HEL.out HYES.out; rw [List.length_append] at this; exact this]
                  exact ho⟩
              case measure => simp [intOf]; omega
            | false =>
              have HNO : Hid (¬ isKnot t n i (m + 1)) := fun hh => by rw [knotB_iff.2 (HREF.out.1 hh)] at hkb; cases hkb
              rw [hkb] at HKC
              clear hkb
              go_wp2_with (go_at_call 89; refine HKC.mono ?_; rintro e w2 ⟨rfl, hb2⟩; obtain ⟨hna, hbw, hs2⟩ := HNA w2 hb2; have HB2 : Hid (Below w.heap.size w w2) := hbw; have HBI2 : Hid (Below wj.heap.size wj w2) := hb2; clear hb2 hbw HNA)
              go_roundw
              case rel =>
                have ho := ownsRow_below HOJ.out HBI2.out
                rw [← kin_no HNO.out] at ho
                exact ⟨m + 1, by omega, by go_num, HB2.out, ho⟩
              case measure => simp [intOf]; omega

        · have e : m = (t i).size := by omega
          have q2 : ¬ (m : Int) + 1 ≤ ((t i).size : Int) := by omega
          clear hb hown HO HB HFR
          go_wp2_with fail
          go_roundw
          case rel =>
            refine ⟨i + 1, by omega, by go_num, by simp, HBI.out, ?_⟩
            have := HOI.out
            rw [e] at this
            exact this
          case measure => simp [intOf]; omega
    · have e : i = n := by omega
      have q1 : ¬ (i : Int) < (n : Int) := by omega
      subst e
      have HO : Hid (wr.ownsRow w.heap.size 9 1 u3 (knots t i i).length (strs (knots t i i))) := hown
      clear hb hown HFR hsh
      go_wp2_with fail
      go_ret
      exact ⟨HB.out, _, rfl, HO.out⟩
end Go.Proofs.YtpngikmcjkjdaaaGreatDoor
