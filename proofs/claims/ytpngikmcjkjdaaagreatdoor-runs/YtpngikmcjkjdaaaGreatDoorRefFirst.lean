import Derived.Test.YtpngikmcjkjdaaaGreatDoorRefWithin
import Derived.Test.YtpngikmcjkjdaaaGreatDoorConv
import Derived.Test.YtpngikmcjkjdaaaGreatDoorRawRef
namespace Go.Proofs.YtpngikmcjkjdaaaGreatDoor
open Go.RowKit
set_option linter.unusedVariables false

theorem wit_iff (M : Tab) : ∀ k i, wit M k i = true ↔ ∃ x, Notes x ∧ x.length = k ∧ M.acc (M.read i x) = true := by
  intro k
  induction k with
  | zero =>
    intro i
    constructor
    · intro h; exact ⟨[], by intro c hc; simp at hc, rfl, h⟩
    · rintro ⟨x, _, hx, h⟩
      have : x = [] := List.length_eq_zero_iff.1 hx
      subst this; exact h
  | succ k ih =>
    intro i
    simp only [wit, anyTo_iff]
    constructor
    · rintro ⟨c, hc, h⟩
      obtain ⟨x, h1, h2, h3⟩ := (ih _).1 h
      refine ⟨c :: x, ?_, by simp [h2], h3⟩
      intro d hd
      simp only [List.mem_cons] at hd
      rcases hd with rfl | hd
      · exact hc
      · exact h1 d hd
    · rintro ⟨x, h1, h2, h3⟩
      cases x with
      | nil => simp at h2
      | cons c x => exact ⟨c, h1 c (by simp), (ih _).2 ⟨x, fun d hd => h1 d (by simp [hd]), by simpa using h2, h3⟩⟩

theorem not_nodup {l : List Nat} (h : ¬ l.Nodup) : ∃ i j, i < j ∧ j < l.length ∧ l.getD i 0 = l.getD j 0 := by
  apply Classical.byContradiction
  intro hn
  apply h
  rw [List.Nodup, List.pairwise_iff_getElem]
  intro i j hi hj hij e
  apply hn
  exact ⟨i, j, hij, hj, by simp [List.getD_eq_getElem?_getD, List.getElem?_eq_getElem hi, List.getElem?_eq_getElem hj, e]⟩

/-- What is accepted at all is accepted of no more notes than states. -/
theorem short_accept {M : Tab} (hM : M.Ok) : ∀ m y, y.length ≤ m → Notes y → M.accepts y = true → ∃ x, Notes x ∧ x.length ≤ M.n ∧ M.accepts x = true := by
  intro m
  induction m with
  | zero => intro y hy hn ha; exact ⟨y, hn, by omega, ha⟩
  | succ m ih =>
    intro y hy hn ha
    by_cases hl : y.length ≤ M.n
    · exact ⟨y, hn, hl, ha⟩
    · have hnd : ¬ ((List.range (y.length + 1)).map fun i => M.read 0 (y.take i)).Nodup := by
        intro hd
        have := nodup_bound M.n _ hd (by
          intro x hx
          simp only [List.mem_map, List.mem_range] at hx
          obtain ⟨i, _, rfl⟩ := hx
          exact Tab.read_lt hM 0 (by have := hM.lo; omega) _ (fun d hd => hn d (List.mem_of_mem_take hd)))
        simp at this; omega
      obtain ⟨i, j, hij, hj, e⟩ := not_nodup hnd
      simp only [List.length_map, List.length_range] at hj
      have g : ∀ q, q < y.length + 1 → ((List.range (y.length + 1)).map fun i => M.read 0 (y.take i)).getD q 0 = M.read 0 (y.take q) := by
        intro q hq; simp [List.getD_eq_getElem?_getD, hq]
      rw [g i (by omega), g j hj] at e
      refine ih (y.take i ++ y.drop j) (by simp; omega) ?_ ?_
      · intro d hd
        simp only [List.mem_append] at hd
        rcases hd with hd | hd
        · exact hn d (List.mem_of_mem_take hd)
        · exact hn d (List.mem_of_mem_drop hd)
      · unfold Tab.accepts at ha ⊢
        rw [Tab.read_append, e, ← Tab.read_append, List.take_append_drop]
        exact ha

/-- The text so far is no later than the beginning of any text of that length that is accepted. -/
def Ahead (M : Tab) (K : Nat) (x : List Nat) : Prop := ∀ y, Notes y → y.length = K → M.accepts y = true → x = y.take x.length ∨ lexlt x (y.take x.length)
theorem Ahead.step {M : Tab} {K k : Nat} {x : List Nat} (h : Ahead M K x) (hK : x.length + (k + 1) = K) {c : Nat} (hno : ∀ d, d < c → wit M k (M.nxt (M.read 0 x) d) = false) : Ahead M K (x ++ [c]) := by
  intro y hy hl ha
  have hx : x.length < y.length := by omega
  have ht : y.take (x.length + 1) = y.take x.length ++ [y[x.length]] := (List.take_append_getElem hx).symm
  rw [List.length_append, List.length_singleton, ht]
  have hlen : x.length = (y.take x.length).length := by simp; omega
  rcases h y hy hl ha with e | e
  · rw [← e]
    have hd : wit M k (M.nxt (M.read 0 x) y[x.length]) = true := by
      refine (wit_iff M k _).2 ⟨y.drop (x.length + 1), fun d hd => hy d (List.mem_of_mem_drop hd), by simp; omega, ?_⟩
      unfold Tab.accepts at ha
      rw [← Tab.read_snoc, ← Tab.read_append]
      have : x ++ [y[x.length]] ++ y.drop (x.length + 1) = y := by
        have e2 : x ++ [y[x.length]] = y.take (x.length + 1) := by rw [ht, ← e]
        rw [e2, List.take_append_drop]
      rw [this]; exact ha
    have hge : c ≤ y[x.length] := by
      apply Classical.byContradiction
      intro hlt
      have := hno y[x.length] (by omega)
      rw [hd] at this; cases this
    by_cases hc : c = y[x.length]
    · left; rw [← hc]
    · right; exact lexlt_last x _ _ (by omega)
  · right; exact lexlt_app _ _ hlen e
theorem Ahead.nil (M : Tab) (K : Nat) : Ahead M K [] := fun y _ _ _ => .inl (by simp)

theorem conv97 (c : Nat) (h : c < 8) : IntKind.u8.wrap (IntKind.i64.wrap (97 + (c : Int))) = 97 + (c : Int) := by
  rw [IntKind.wrap_i64]
  have : (97 + (c : Int) + 9223372036854775808) % 18446744073709551616 - 9223372036854775808 = 97 + (c : Int) := by omega
  rcases (show c = 0 ∨ c = 1 ∨ c = 2 ∨ c = 3 ∨ c = 4 ∨ c = 5 ∨ c = 6 ∨ c = 7 by omega) with rfl | rfl | rfl | rfl | rfl | rfl | rfl | rfl <;> rfl

set_option maxRecDepth 20000 in
set_option maxHeartbeats 2000000 in
theorem refFirst_ok (V : Lay) (M : Tab) (w : World) (hM : M.Ok) (hV : TabAt w V M) :
    Calls Tryz.prog 35 #[.agg #[.slice (some ⟨V.ba, V.oa, none⟩) M.n V.ca, .slice (some ⟨V.bn, V.on, none⟩) M.n V.cn]] w (FirstPost M w) := by
  have l1 := hM.lo
  have l2 := hM.hi
  obtain ⟨W, hW⟩ : ∃ W, W = w.alloc (.cells #[.slice (some ⟨V.ba, V.oa, none⟩) M.n V.ca, .slice (some ⟨V.bn, V.on, none⟩) M.n V.cn] 41) := ⟨_, rfl⟩
  have BW : Below w.heap.size w W := by rw [hW]; exact (Below.refl _ _).alloc (Nat.le_refl _) _
  have hWs : w.heap.size < W.heap.size := by rw [hW]; simp
  have b0 : W.heap[w.heap.size]? = some (.cells #[.slice (some ⟨V.ba, V.oa, none⟩) M.n V.ca, .slice (some ⟨V.bn, V.on, none⟩) M.n V.cn] 41 (0, 0)) := by rw [hW]; exact heap_at_new (by simp)
  have hV0 := hV.below BW
  go_enter Tryz.func35, Tryz.ntmps35
  go_wp2_with fail
  rw [← hW]
  clear hW
  refine (isTable_ok V M W hM hV0).mono ?_
  rintro e w1 ⟨rfl, hB1⟩
  have hs1 := hB1.size
  have a0 := (hB1.block _ (by omega)).trans b0
  have BW1 : Below w.heap.size w w1 := BW.trans (hB1.mono (by omega))
  have hV1 := hV0.below hB1
  clear b0 hB1 hV0 BW
  obtain ⟨x0, x1, _, _⟩ := cell_two a0
  go_wp2_with fail
  refine (within_ok V M w1 hM hV1).mono ?_
  rintro e w2 ⟨hB2, g, cap, rb, ro, rc, rfl, hg, hr⟩
  have hs2 := hB2.size
  have b0 := (hB2.block _ (by omega)).trans a0
  have BW2 : Below w.heap.size w w2 := BW1.trans (hB2.mono (by omega))
  have hV2 := hV1.below hB2
  clear x0 x1 a0 hB2 hV1 BW1 hV
  obtain ⟨x0, x1, _, _⟩ := cell_two b0
  go_wp2_with fail
  go_loop [7] (fun k' => ∃ k : Nat, k ≤ M.n + 1 ∧ k' = .int .i64 k ∧ ∀ j, j < k → wit M j 0 = false) (fun k' => M.n + 1 - (intOf k').toNat)
  case atStart => exact ⟨0, by omega, rfl, fun j hj => absurd hj (by omega)⟩
  case round =>
    obtain ⟨k, hk, rfl, hno⟩ := hrel
    by_cases hlt : k < M.n + 1
    · have y0 := hg k (by omega)
      have y1 := hr k (by omega) 0 (by omega)
      rw [Nat.add_zero] at y1
      obtain ⟨wk, HWK⟩ : ∃ x, Hid (wit M k 0 = x) := ⟨_, rfl⟩
      rw [HWK.out] at y1
      have HNO : Hid _ := hno
      cases wk
      · have HG : Hid _ := hg
        have HR : Hid _ := hr
        have HV : Hid _ := hV2
        clear hno hg hr hV2
        go_wp2_with fail
        go_round
        case rel =>
          refine ⟨k + 1, by omega, by go_num, fun j hj => ?_⟩
          by_cases e : j = k
          · subst e; exact HWK.out
          · exact HNO.out j (by omega)
        case measure => simp [intOf]; omega
      · have hne : ((k : Int) == ((M.n : Int) + 1)) = false := by simp; omega
        have HG : Hid _ := hg
        have HR : Hid _ := hr
        have HV : Hid _ := hV2
        clear hno hg hr hV2
        go_wp2_with fail
        go_loopw [7, 8, 9, 10] (fun k' s' t' _ wr => ∃ (m : Nat) (t : ByteArray), m ≤ k ∧ k' = .int .i64 m ∧ t' = .string t ∧ IsText t ∧ t.size + m = k ∧ s' = .int .i64 (M.read 0 (notesOf t)) ∧ wit M m (M.read 0 (notesOf t)) = true ∧ Ahead M k (notesOf t) ∧ Below w2.heap.size w2 wr)
          (fun k' _ _ _ _ => (intOf k').toNat)
        case atStart => exact ⟨k, ⟨#[]⟩, by omega, rfl, rfl, by intro c hc; simp at hc, by simp [ByteArray.size], rfl, HWK.out, Ahead.nil M k, Below.refl _ _⟩
        case round =>
          obtain ⟨m, t, hm, rfl, rfl, ht, hsz, rfl, hw, ha, hb⟩ := hrel
          have hst := Tab.read_lt hM 0 (by omega) _ (notes_of ht)
          obtain ⟨q, HQ⟩ : ∃ q, Hid (M.read 0 (notesOf t) = q) := ⟨_, rfl⟩
          rw [HQ.out] at hst hw ⊢
          obtain ⟨x0, x1, _, _⟩ := cell_two ((hb.block _ (by omega)).trans b0)
          have HA : Hid _ := ha
          have HT : Hid _ := ht
          have HB : Hid _ := hb
          have HSZ : Hid _ := hsz
          have hsle : t.size ≤ 41 := by omega
          by_cases hm0 : m = 0
          · subst hm0
            clear ht ha hb hsz
            go_wp2_with fail
            go_ret3
            have hz := HSZ.out
            refine ⟨BW2.trans (HB.out.mono (by omega)), .inl ⟨t, rfl, HT.out, by omega, ?_, fun y hy hya => ?_⟩⟩
            · unfold Tab.accepts; rw [HQ.out]; exact hw
            · have hwy := (wit_iff M y.length 0).2 ⟨y, hy, rfl, hya⟩
              have hge : k ≤ y.length := by
                apply Classical.byContradiction
                intro hlt
                have := HNO.out y.length (by omega)
                rw [hwy] at this; cases this
              have hnl : (notesOf t).length = k := by rw [notesOf_length]; omega
              by_cases he : y.length = k
              · rcases HA.out y hy he hya with h | h
                · left; rw [h, hnl, ← he, List.take_length]
                · right; right; rw [hnl, ← he, List.take_length] at h; exact ⟨by omega, h⟩
              · right; left; omega
          · obtain ⟨m', rfl⟩ : ∃ m', m = m' + 1 := ⟨m - 1, by omega⟩
            have hgt : ((m' : Int) + 1 > 0) := by omega
            have hyr : ∀ c, c < 8 → wr.cell? ⟨V.rb q, V.ro q + c, none⟩ = some (.int .i64 (M.nxt q c)) := fun c hc => (HV.out.below hb).cel q c hst hc
            have z0 := (HV.out.below hb).row q hst
            have hgm : wr.cell? ⟨g, m', none⟩ = some (.slice (some ⟨rb m', ro m', none⟩) M.n (rc m')) := by
              have h0 := HG.out m' (by omega)
              rw [(bcell hb).1 _ _ (lt_of_cell h0)]; exact h0
            have hrm : ∀ i, i < M.n → wr.cell? ⟨rb m', ro m' + i, none⟩ = some (.bool (wit M m' i)) := fun i hi => by
              have h0 := HR.out m' (by omega) i hi
              rw [(bcell hb).1 _ _ (lt_of_cell h0)]; exact h0
            simp only [wit, anyTo_iff] at hw
            have HW8 : Hid _ := hw
            have HYR : Hid _ := hyr
            have HRM : Hid _ := hrm
            have hwp := wrap_pred m' (by omega)
            have hbs := hb.size
            clear ht ha hb hsz hw hyr hrm
            rename World => wo
            go_wp2_with fail
            go_loopw [10] (fun c' wr => ∃ (c : Nat) (nq : Nat), c ≤ 8 ∧ c' = .int .i64 c ∧ (∀ d, d < c → wit M m' (M.nxt q d) = false) ∧ wr = wo.drewN nq) (fun c' _ => 8 - (intOf c').toNat)
            case atStart => exact ⟨0, 0, by omega, rfl, fun d hd => absurd hd (by omega), rfl⟩
            case round =>
              obtain ⟨c, nq, hc, rfl, hcn, rfl⟩ := hrel
              have hc8 : c < 8 := by
                obtain ⟨d, hd, h⟩ := HW8.out
                apply Classical.byContradiction
                intro hlt
                have := hcn d (by omega)
                rw [h] at this; cases this
              have u0 := HYR.out c hc8
              have hnx := hM.nx q c hst hc8
              have u1 := HRM.out _ hnx
              obtain ⟨nn, HNN⟩ : ∃ x, Hid (M.nxt q c = x) := ⟨_, rfl⟩
              rw [HNN.out] at u0 u1 hnx
              obtain ⟨wc, HWC⟩ : ∃ x, Hid (wit M m' nn = x) := ⟨_, rfl⟩
              rw [HWC.out] at u1
              have HCN : Hid _ := hcn
              clear hcn
              cases wc
              · go_wp2_with fail
                go_quiet (fail)
                go_wp2_with fail
                go_roundw
                case rel =>
                  refine ⟨c + 1, _, by omega, by go_num, fun d hd => ?_, rfl⟩
                  by_cases e : d = c
                  · subst e; rw [HNN.out]; exact HWC.out
                  · exact HCN.out d (by omega)
                case measure => simp [intOf]; omega
              · have hcv : ∀ q, Sem.run Tryz.prog (convert 110 9 (.slice (some ⟨wo.heap.size, 0, none⟩) 1 1)) ((wo.drewN q).alloc (.cells #[.int .u8 (97 + (c : Int))] 5)) = .ok (.string ⟨#[noteB c]⟩) ((wo.drewN q).alloc (.cells #[.int .u8 (97 + (c : Int))] 5)) := fun q => conv_note c hc8 (wo.drewN q)
                have h97 := conv97 c hc8
                go_wp2_with fail
                go_quiet (fail)
                go_wp2_with fail
                go_roundw
                case rel =>
                  have hz := HSZ.out
                  refine ⟨m', t ++ ⟨#[noteB c]⟩, by omega, by go_num, rfl, isText_push _ _ HT.out (isText_note c hc8), ?_, ?_, ?_, ?_, ?_⟩
                  · rw [ByteArray.size_append]; show t.size + 1 + m' = k; omega
                  · rw [notesOf_append, notesOf_note c hc8, Tab.read_snoc, HQ.out, HNN.out]
                  · rw [notesOf_append, notesOf_note c hc8, Tab.read_snoc, HQ.out, HNN.out]; exact HWC.out
                  · rw [notesOf_append, notesOf_note c hc8]
                    refine Ahead.step (k := m') HA.out (by rw [notesOf_length]; omega) (fun d hd => ?_)
                    rw [HQ.out]; exact HCN.out d hd
                  · exact (below_drewN HB.out _).alloc (by simp; omega) _
                case measure => simp [intOf]
    · have he : k = M.n + 1 := by omega
      subst he
      have hbe : ((((M.n + 1 : Nat)) : Int) == ((M.n : Int) + 1)) = true := by simp
      have HNO : Hid _ := hno
      clear hno hg hr hV2
      go_wp2_with fail
      go_ret3
      refine ⟨BW2, .inr ⟨rfl, fun y hy => ?_⟩⟩
      cases hya : M.accepts y with
      | false => rfl
      | true =>
        obtain ⟨x, hx, hxl, hxa⟩ := short_accept hM y.length y (Nat.le_refl _) hy hya
        have h1 := HNO.out x.length (by omega)
        have h2 := (wit_iff M x.length 0).2 ⟨x, hx, rfl, hxa⟩
        rw [h1] at h2; cases h2

set_option maxRecDepth 20000 in
set_option maxHeartbeats 1000000 in
theorem refFirst_no (r : RLay) (A : Nat → Bool) (X : Nat → Nat → Int) (w : World) (h : RawAt w r A X) (hok : rawOk r X = false) :
    Calls Tryz.prog 35 #[.agg #[.slice r.aa r.na r.ca, .slice r.an r.nn r.cn]] w
      fun e w' => e = .returned (.tuple #[.string ⟨#[]⟩, .bool false, .int .i64 6]) ∧ Below w.heap.size w w' := by
  have B1 : Below w.heap.size w (w.alloc (.cells #[.slice r.aa r.na r.ca, .slice r.an r.nn r.cn] 41)) := (Below.refl _ _).alloc (Nat.le_refl _) _
  have HV := isTable_any r A X _ (h.below B1)
  rw [hok] at HV
  clear h hok
  go_enter Tryz.func35, Tryz.ntmps35
  go_wp2_with fail
  refine HV.mono ?_
  rintro e w1 ⟨rfl, hb1⟩
  have B2 : Below w.heap.size w w1 := B1.trans (hb1.mono (by simp))
  clear HV hb1
  go_wp2_with fail
  go_ret3
  exact ⟨rfl, B2⟩

theorem map_sub_inj : ∀ (l m : List UInt8), (∀ c ∈ l, 97 ≤ c.toNat) → (∀ c ∈ m, 97 ≤ c.toNat) → l.map (fun c => c.toNat - 97) = m.map (fun c => c.toNat - 97) → l = m := by
  intro l
  induction l with
  | nil => intro m _ _ h; cases m with
    | nil => rfl
    | cons a m => simp at h
  | cons a l ih =>
    intro m hl hm h
    cases m with
    | nil => simp at h
    | cons b m =>
      simp only [List.map_cons, List.cons.injEq] at h
      have h1 := hl a (by simp)
      have h2 := hm b (by simp)
      have e : a = b := by apply UInt8.toNat_inj.1; omega
      rw [e, ih m (fun c hc => hl c (by simp [hc])) (fun c hc => hm c (by simp [hc])) h.2]
theorem text_inj {s t : ByteArray} (hs : IsText s) (ht : IsText t) (h : notesOf s = notesOf t) : s = t := by
  have := map_sub_inj s.data.toList t.data.toList (fun c hc => (hs c (by simpa using hc)).1) (fun c hc => (ht c (by simpa using hc)).1) h
  cases s; cases t
  simp only [ByteArray.mk.injEq] at *
  exact Array.toList_inj.1 this
/-- Two answers of First on one table are the same. -/
theorem sle_antisymm {a b : List Nat} (h : sle a b) (h' : sle b a) : a = b := by
  rcases h with h | h
  · exact h
  · rcases h' with h' | h'
    · exact h'.symm
    · exact absurd (sl_trans h h') (sl_irrefl a)
theorem firstPost_same {M : Tab} {w1 w2 w1' w2' : World} {e1 e2 : Ending} (h1 : FirstPost M w1 e1 w1') (h2 : FirstPost M w2 e2 w2') : e1 = e2 ∧ ∃ (s : ByteArray) (b : Bool), e1 = .returned (.tuple #[.string s, .bool b, .int .i64 0]) := by
  obtain ⟨_, h1⟩ := h1
  obtain ⟨_, h2⟩ := h2
  rcases h1 with ⟨s, rfl, hs, _, ha, hm⟩ | ⟨rfl, hn⟩
  · rcases h2 with ⟨t, rfl, ht, _, hb, hm2⟩ | ⟨rfl, hn⟩
    · have := text_inj hs ht (sle_antisymm (hm _ (notes_of ht) hb) (hm2 _ (notes_of hs) ha))
      subst this
      exact ⟨rfl, s, true, rfl⟩
    · have := hn _ (notes_of hs); rw [ha] at this; cases this
  · rcases h2 with ⟨t, rfl, ht, _, hb, hm2⟩ | ⟨rfl, hn⟩
    · have := hn _ (notes_of ht); rw [hb] at this; cases this
    · exact ⟨rfl, _, false, rfl⟩
end Go.Proofs.YtpngikmcjkjdaaaGreatDoor
