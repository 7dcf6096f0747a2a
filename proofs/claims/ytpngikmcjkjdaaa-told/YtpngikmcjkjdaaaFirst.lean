import Derived.Test.YtpngikmcjkjdaaaFirstP
import Derived.Test.YtpngikmcjkjdaaaJoin
namespace Go.Proofs.Ytpngikmcjkjdaaa
open Go.RowKit
set_option linter.unusedVariables false

set_option maxRecDepth 20000 in
set_option maxHeartbeats 1000000 in
theorem name_ok (c : Nat) (w : World) (h : c < 8) :
    Calls Try.prog 32 #[.int .i64 c] w fun e w' => e = .returned (.string ⟨#[noteB c]⟩) ∧ w' = w := by
  rcases (show c = 0 ∨ c = 1 ∨ c = 2 ∨ c = 3 ∨ c = 4 ∨ c = 5 ∨ c = 6 ∨ c = 7 by omega) with rfl | rfl | rfl | rfl | rfl | rfl | rfl | rfl
  all_goals
    go_enter Try.func32, Try.ntmps32
    go_wp2
    go_ret
    refine ⟨?_, rfl⟩
    rfl

def bs40 : Array Value := Array.replicate 40 (.bool false)
theorem zero_b40 (w : World) : Sem.run Try.prog (zeroValue 53) w = .ok (.agg bs40) w := by kernel_rfl
theorem Try.infoQ : (Try.prog.info? 55).map (fun i => (i.zero, i.size, i.bytes)) = some (some (.agg #[.int .i64 0, .string ⟨#[]⟩]), 2, 24) := by kernel_rfl

def qcells (ps : List Nat) (bs : List ByteArray) (n : Nat) : List Value := (List.range n).flatMap fun j : Nat => [.int .i64 ((ps.getD j 0 : Nat) : Int), .string (bs.getD j ⟨#[]⟩)]
theorem qcells_succ (ps : List Nat) (bs : List ByteArray) (n : Nat) : qcells ps bs (n + 1) = qcells ps bs n ++ [.int .i64 ((ps.getD n 0 : Nat) : Int), .string (bs.getD n ⟨#[]⟩)] := by
  simp [qcells, List.range_succ]
theorem qcells_len (ps : List Nat) (bs : List ByteArray) (n : Nat) : (qcells ps bs n).length = n * 2 := by
  induction n with
  | zero => rfl
  | succ n ih => rw [qcells_succ, List.length_append, ih]; simp; omega
theorem qcells_at (ps : List Nat) (bs : List ByteArray) (n k : Nat) (hk : k < n) : (qcells ps bs n)[k * 2]? = some (.int .i64 ((ps.getD k 0 : Nat) : Int)) ∧ (qcells ps bs n)[k * 2 + 1]? = some (.string (bs.getD k ⟨#[]⟩)) := by
  induction n with
  | zero => omega
  | succ n ih =>
    rw [qcells_succ]
    by_cases e : k = n
    · subst e
      rw [List.getElem?_append_right (by rw [qcells_len]; exact Nat.le_refl _), List.getElem?_append_right (by rw [qcells_len]; omega), qcells_len]
      simp
    · rw [List.getElem?_append_left (by rw [qcells_len]; omega), List.getElem?_append_left (by rw [qcells_len]; omega)]
      exact ih (by omega)
theorem qcells_congr {ps ps' : List Nat} {bs bs' : List ByteArray} {n : Nat} (h1 : ∀ j, j < n → ps.getD j 0 = ps'.getD j 0) (h2 : ∀ j, j < n → bs.getD j ⟨#[]⟩ = bs'.getD j ⟨#[]⟩) : qcells ps bs n = qcells ps' bs' n := by
  induction n with
  | zero => rfl
  | succ n ih => rw [qcells_succ, qcells_succ, ih (fun j hj => h1 j (by omega)) (fun j hj => h2 j (by omega)), h1 n (by omega), h2 n (by omega)]

/-- The memory of First. -/
structure FirstMem (W : World) (m : Nat) (w : World) (ps : List Nat) (bs : List ByteArray) (vq : Value) : Prop where
  blw : Below m W w
  met : w.rowIs m 53 40 (fun q => .bool (decide (q ∈ ps)))
  own : w.ownsRow (m + 1) 55 2 vq ps.length (qcells ps bs ps.length)
structure FRound (W : World) (m H : Nat) (w : World) (ps : List Nat) (bs : List ByteArray) (vq : Value) (s : Nat) (t : ByteArray) : Prop where
  mem : FirstMem W m w ps bs vq
  here : w.heap[H]? = some (.cells #[.int .i64 (s : Int), .string t] 55 (0, 0))
  lo : m + 1 ≤ H
  dq : vq.ownBlock ≠ some H

section
variable {W : World} {m H : Nat} {w w2 : World} {ps : List Nat} {bs : List ByteArray} {vq : Value} {s : Nat} {t : ByteArray}
theorem FirstMem.alloc (h : FirstMem W m w ps bs vq) (o : Obj) : FirstMem W m (w.alloc o) ps bs vq :=
  ⟨h.blw.alloc (by have := h.met.lt; omega) o, h.met.alloc o, h.own.alloc o⟩
theorem FRound.alloc (h : FRound W m H w ps bs vq s t) (o : Obj) : FRound W m H (w.alloc o) ps bs vq s t := ⟨h.mem.alloc o, heap_at_old h.here, h.lo, h.dq⟩
/-- met is marked. -/
theorem FRound.mark (h : FRound W m H w ps bs vq s t) (q : Nat) : Below m W (w.setCell ⟨m, q, none⟩ (.bool true)) ∧ (w.setCell ⟨m, q, none⟩ (.bool true)).rowIs m 53 40 (fun x => .bool (decide (x ∈ ps ++ [q]))) ∧
    (w.setCell ⟨m, q, none⟩ (.bool true)).ownsRow (m + 1) 55 2 vq ps.length (qcells ps bs ps.length) ∧ (w.setCell ⟨m, q, none⟩ (.bool true)).heap[H]? = some (.cells #[.int .i64 (s : Int), .string t] 55 (0, 0)) := by
  have hlo := h.lo
  refine ⟨h.mem.blw.setCell (p := ⟨m, q, none⟩) (Nat.le_refl _) _, (h.mem.met.set q _).congr (fun x _ => ?_), ownsRow_setCell_below h.mem.own (by simp) _, heap_set_other h.here (by simp; omega)⟩
  by_cases e : x = q
  · simp [e]
  · simp [e]
end

/-- What First answers. -/
def FirstPost (M : Tab) (w : World) (e : Ending) (w' : World) : Prop :=
  Below w.heap.size w w' ∧
    ((∃ s : ByteArray, e = .returned (.tuple #[.string s, .bool true, .int .i64 0]) ∧ IsText s ∧ s.size ≤ 40 ∧ M.accepts (notesOf s) = true ∧ ∀ y, Notes y → M.accepts y = true → sle (notesOf s) y) ∨
     (e = .returned (.tuple #[.string ⟨#[]⟩, .bool false, .int .i64 0]) ∧ ∀ y, Notes y → M.accepts y = false))

theorem notesOf_append (s t : ByteArray) : notesOf (s ++ t) = notesOf s ++ notesOf t := by
  have : (s ++ t).data = s.data ++ t.data := by simp [ByteArray.data_append]
  simp only [notesOf, this, Array.toList_append, List.map_append]
theorem notesOf_note (c : Nat) (h : c < 8) : notesOf ⟨#[noteB c]⟩ = [c] := by
  simp only [notesOf, List.map_cons, List.map_nil]
  rw [toNat_note c h]; simp
theorem bgetD_app (l : List ByteArray) (x : ByteArray) (i : Nat) (h : i < l.length) : (l ++ [x]).getD i ⟨#[]⟩ = l.getD i ⟨#[]⟩ := by
  simp [List.getD_eq_getElem?_getD, List.getElem?_append_left h]
theorem bgetD_new (l : List ByteArray) (x : ByteArray) : (l ++ [x]).getD l.length ⟨#[]⟩ = x := by simp [List.getD_eq_getElem?_getD]
/-- The texts of the queue, by their notes. -/
theorem map_getD (bs : List ByteArray) (j : Nat) : (bs.map notesOf).getD j [] = notesOf (bs.getD j ⟨#[]⟩) := by
  rw [List.getD_eq_getElem?_getD, List.getElem?_map, List.getD_eq_getElem?_getD]
  cases bs[j]? <;> rfl
structure QT (M : Tab) (ps : List Nat) (bs : List ByteArray) (p : Nat) : Prop where
  q : QRel M ps (bs.map notesOf) p
  txt : ∀ j, j < bs.length → IsText (bs.getD j ⟨#[]⟩)
theorem QT.len {M : Tab} {ps : List Nat} {bs : List ByteArray} {p : Nat} (h : QT M ps bs p) : bs.length = ps.length := by have := h.q.len; simpa using this
theorem QT.size {M : Tab} {ps : List Nat} {bs : List ByteArray} {p : Nat} (h : QT M ps bs p) (j : Nat) (hj : j < ps.length) : (bs.getD j ⟨#[]⟩).size ≤ j := by
  have := (h.q.rd j hj).2.2
  rw [map_getD, notesOf_length] at this; exact this
theorem QT.bound {M : Tab} {ps : List Nat} {bs : List ByteArray} {p : Nat} (h : QT M ps bs p) : ps.length ≤ M.n := nodup_bound _ _ h.q.rel.nd h.q.rel.inr

set_option maxRecDepth 20000 in
set_option maxHeartbeats 2000000 in
theorem tfirst_ok (V : Lay) (M : Tab) (w : World) (hM : M.Ok) (hV : TabAt w V M) :
    Calls Try.prog 26 #[.agg #[.slice (some ⟨V.ba, V.oa, none⟩) M.n V.ca, .slice (some ⟨V.bn, V.on, none⟩) M.n V.cn]] w (FirstPost M w) := by
  have hz := zero_b40
  have l1 := hM.lo
  have l2 := hM.hi
  obtain ⟨i0, hi, hz0, hz1, hz2⟩ := info_parts Try.infoQ
  obtain ⟨W, hW⟩ : ∃ W, W = w.alloc (.cells #[.slice (some ⟨V.ba, V.oa, none⟩) M.n V.ca, .slice (some ⟨V.bn, V.on, none⟩) M.n V.cn] 26) := ⟨_, rfl⟩
  have BW : Below w.heap.size w W := by rw [hW]; exact (Below.refl _ _).alloc (Nat.le_refl _) _
  have hWs : W.heap.size = w.heap.size + 1 := by rw [hW]; simp
  have b0 : W.heap[w.heap.size]? = some (.cells #[.slice (some ⟨V.ba, V.oa, none⟩) M.n V.ca, .slice (some ⟨V.bn, V.on, none⟩) M.n V.cn] 26 (0, 0)) := by rw [hW]; exact heap_at_new (by simp)
  have hV0 := hV.below BW
  go_enter Try.func26, Try.ntmps26
  go_wp2_with fail
  rw [← hW]
  clear hW
  refine (valid_ok V M W hM hV0).mono ?_
  rintro e w1 ⟨rfl, hB1⟩
  have hs1 := hB1.size
  have BW1 : Below w.heap.size w w1 := BW.trans (hB1.mono (by omega))
  have a0 := (hB1.block _ (by omega)).trans b0
  have hV1 := hV0.below hB1
  clear hB1 hV0 hV BW b0
  obtain ⟨W2, hW2⟩ : ∃ W2, W2 = w1.alloc (.cells bs40 53) := ⟨_, rfl⟩
  have r4 : W2.rowIs w1.heap.size 53 40 (fun _ => .bool false) := by rw [hW2]; exact ⟨_, heap_at_new rfl, by simp [bs40], fun i hi => by simp [bs40, hi]⟩
  have hW2s : W2.heap.size = w1.heap.size + 1 := by rw [hW2]; simp
  have B12 : Below w1.heap.size w1 W2 := by rw [hW2]; exact (Below.refl _ _).alloc (Nat.le_refl _) _
  have s0 := r4.cell (i := 0) (by omega)
  have s1 := r4.frozen 0
  have R4 : Hid (W2.rowIs w1.heap.size 53 40 (fun _ => .bool false)) := r4
  clear r4
  go_upto_region 4 with fail
  rw [← hW2]
  clear hW2 hz
  go_wp2_with fail
  clear s0 s1
  have P0 : FirstMem w1 w1.heap.size ((W2.setCell ⟨w1.heap.size, 0, none⟩ (.bool true)).alloc (.cells #[.int .i64 0, .string ⟨#[]⟩] 55)) [0] [⟨#[]⟩] (.slice (some ⟨w1.heap.size + 1, 0, none⟩) 1 1) := by
    have hs : (W2.setCell ⟨w1.heap.size, 0, none⟩ (.bool true)).heap.size = w1.heap.size + 1 := by simp [hW2s]
    refine ⟨(B12.setCell (p := ⟨w1.heap.size, 0, none⟩) (Nat.le_refl _) _).alloc (by omega) _, ?_, ?_⟩
    · refine ((R4.out.set 0 _).alloc _).congr (fun x _ => ?_)
      by_cases e : x = 0
      · subst e; simp
      · simp [e]
    · have := World.ownsRow_lit (base := w1.heap.size + 1) (e := 55) (size := 2) (W2.setCell ⟨w1.heap.size, 0, none⟩ (.bool true)) #[.int .i64 0, .string ⟨#[]⟩] 1 (by omega) (by decide) rfl
      rw [hs] at this
      exact this
  have Q0 : QT M [0] [⟨#[]⟩] 0 := ⟨QRel.start hM, fun j hj => by
    have : j = 0 := by simp at hj; omega
    subst this; intro c hc; simp at hc⟩
  clear R4 B12 hW2s
  go_loopw [6, 7] (fun vq at' wr => ∃ k : Nat, ∃ ps bs, k ≤ ps.length ∧ at' = .int .i64 k ∧ QT M ps bs (8 * k) ∧ (∀ j, j < k → M.acc (ps.getD j 0) = false) ∧ FirstMem w1 w1.heap.size wr ps bs vq)
    (fun _ at' _ => 40 - (intOf at').toNat)
  case atStart => exact ⟨0, [0], [⟨#[]⟩], by simp, rfl, Q0, fun j hj => absurd hj (by omega), P0⟩
  case round =>
    obtain ⟨k, ps, bs, hk, rfl, hQ, hno, hP⟩ := hrel
    clear P0 Q0
    have hbd := hQ.bound
    have hbW := hP.blw
    have hbw : Below w.heap.size w wr := BW1.trans (hbW.mono (by omega))
    obtain ⟨x0, x1, _, _⟩ := cell_two ((hbW.block _ (by omega)).trans a0)
    obtain ⟨aq, cq, rfl, haq⟩ := ownsRow_shape hP.own
    have HNO : Hid (∀ j, j < k → M.acc (ps.getD j 0) = false) := hno
    clear hno
    by_cases hlt : k < ps.length
    · obtain ⟨gq, rfl, hcq⟩ := haq (by omega)
      have hqk := qcells_at ps bs ps.length k hlt
      have y0 := (hcq (k * 2) (by omega)).trans hqk.1
      have y1 := (hcq (k * 2 + 1) (by omega)).trans hqk.2
      have hsn := hQ.q.rel.inr _ (getD_mem ps k hlt)
      have htx := hQ.txt k (by rw [hQ.len]; exact hlt)
      have htz := hQ.size k hlt
      have htr := (hQ.q.rd k hlt).2.1
      rw [map_getD] at htr
      obtain ⟨s, HS⟩ : ∃ s, Hid (ps.getD k 0 = s) := ⟨_, rfl⟩
      obtain ⟨t, HT⟩ : ∃ t, Hid (bs.getD k ⟨#[]⟩ = t) := ⟨_, rfl⟩
      rw [HS.out] at y0 hsn htr
      rw [HT.out] at y1 htx htz htr
      have y2 := (hV1.below (hbW.mono (Nat.le_refl _))).acc s hsn
      have hva := lt_of_cell y2
      have hsw : w.heap.size < wr.heap.size := by have := hP.met.lt; omega
      have HTR : Hid (M.read 0 (notesOf t) = s) := htr
      have HTX : Hid (IsText t) := htx
      clear htr htx
      cases hac : M.acc s
      · rw [hac] at y2
        have HAC : Hid (M.acc s = false) := hac
        have HP : Hid _ := hP
        have HQ : Hid _ := hQ
        clear hac hP hQ haq hcq hqk
        go_wp2_with fail
        clear y0 y1 y2 x0 x1
        rename World => wo
        have HS0 : w1.heap.size + 1 ≤ wo.heap.size := by have := HP.out.met.lt; omega
        have R0 : FRound w1 w1.heap.size wo.heap.size (wo.alloc (.cells #[.int .i64 (s : Int), .string t] 55)) ps bs (.slice (some ⟨gq, 0, none⟩) ps.length cq) s t :=
          ⟨HP.out.alloc _, heap_at_new rfl, HS0, fun e => by have := (HP.out.own.lt _ e).2; omega⟩
        go_loopw [6, 9] (fun vq c' wi => ∃ c : Nat, ∃ qs cs, c ≤ 8 ∧ c' = .int .i64 c ∧ k < qs.length ∧ Hid (qs.getD k 0 = s) ∧ Hid (cs.getD k ⟨#[]⟩ = t) ∧ (∀ j, j < k + 1 → M.acc (qs.getD j 0) = false) ∧ QT M qs cs (8 * k + c) ∧ FRound w1 w1.heap.size wo.heap.size wi qs cs vq s t)
          (fun _ c' _ => 8 - (intOf c').toNat)
        case atStart =>
          refine ⟨0, ps, bs, by omega, rfl, hlt, HS, HT, ?_, HQ.out, R0⟩
          intro j hj
          by_cases e : j = k
          · subst e; rw [HS.out]; exact HAC.out
          · exact HNO.out j (by omega)
        case round =>
          clear R0 HP HQ HS HT HNO hlt
          obtain ⟨c, qs, cs, hc, rfl, hlt, HS, HT, hno, hQ, hP⟩ := hrel
          have hbd := hQ.bound
          have hbW := hP.mem.blw
          have hbw : Below w.heap.size w wr := BW1.trans (hbW.mono (by omega))
          obtain ⟨x0, x1, _, _⟩ := cell_two ((hbW.block _ (by omega)).trans a0)
          obtain ⟨e0, e1, _, _⟩ := cell_two hP.here
          obtain ⟨aq', cq', rfl, haq⟩ := ownsRow_shape hP.mem.own
          obtain ⟨gq', rfl, hcq⟩ := haq (by omega)
          have HNO : Hid (∀ j, j < k + 1 → M.acc (qs.getD j 0) = false) := hno
          clear hno
          by_cases hl8 : c < 8
          · have y0 := (hV1.below (hbW.mono (Nat.le_refl _))).row s hsn
            have y1 := (hV1.below (hbW.mono (Nat.le_refl _))).cel s c hsn hl8
            have n1 := hM.nx s c hsn hl8
            obtain ⟨nv, HNV⟩ : ∃ x, Hid (M.nxt s c = x) := ⟨_, rfl⟩
            rw [HNV.out] at y1 n1
            have n40 : nv < 40 := by omega
            have m0 := hP.mem.met.cell (i := nv) (by omega)
            have m1 := hP.mem.met.frozen nv
            have HSQ : Hid (M.nxt (qs.getD ((8 * k + c) / 8) 0) ((8 * k + c) % 8) = nv) := by
              unfold Hid; rw [show (8 * k + c) / 8 = k by omega, show (8 * k + c) % 8 = c by omega, HS.out]; exact HNV.out
            have HP : Hid (FRound w1 w1.heap.size wo.heap.size wr qs cs (.slice (some ⟨gq', 0, none⟩) qs.length cq') s t) := hP
            have HQ : Hid (QT M qs cs (8 * k + c)) := hQ
            have HH := heap_lt hP.here
            have hmlt := hP.mem.met.lt
            clear hP hQ haq hcq hbW hbw
            by_cases hmem : nv ∈ qs
            · have hd : decide (nv ∈ qs) = true := by simp [hmem]
              rw [hd] at m0
              have HM : Hid (nv ∈ qs) := hmem
              clear hmem hd
              go_wp2_with fail
              go_roundw
              case rel =>
                exact ⟨c + 1, qs, cs, by omega, by go_num, hlt, HS, HT, HNO.out, ⟨HQ.out.q.old (by omega) (by rw [HSQ.out]; exact HM.out), HQ.out.txt⟩, HP.out⟩
              case measure => simp [intOf]; omega
            · have hd : decide (nv ∈ qs) = false := by simp [hmem]
              rw [hd] at m0
              have HM : Hid (nv ∉ qs) := hmem
              clear hmem hd
              obtain ⟨W3, hW3⟩ : ∃ W3, W3 = wr.setCell ⟨w1.heap.size, nv, none⟩ (.bool true) := ⟨_, rfl⟩
              have hW3s : W3.heap.size ≤ wr.heap.size := by rw [hW3]; simp
              have hW3t : wr.heap.size ≤ W3.heap.size := by rw [hW3]; simp
              obtain ⟨k1, k2, k3, k4⟩ := HP.out.mark nv
              rw [← hW3] at k1 k2 k3 k4
              obtain ⟨tt, HTT⟩ : ∃ x : ByteArray, Hid (t ++ ⟨#[noteB c]⟩ = x) := ⟨_, rfl⟩
              have hna := k3.alloc (.cells #[.int .i64 (nv : Int), .string tt] 55)
              have hbo : w1.heap.size + 1 ≤ (W3.alloc (.cells #[.int .i64 (nv : Int), .string tt] 55)).heap.size := by simp; omega
              have K1 : Hid (Below w1.heap.size w1 W3) := k1
              have K2 : Hid _ := k2
              have K4 : Hid (W3.heap[wo.heap.size]? = some (.cells #[.int .i64 (s : Int), .string t] 55 (0, 0))) := k4
              obtain ⟨e2, e3, _, _⟩ := cell_two k4
              have hqq := HQ.out.len
              clear k1 k2 k3 k4
              go_upto_region 18 with fail
              rw [← hW3]
              clear hW3
              go_wp2_with fail
              refine (name_ok c _ hl8).mono ?_
              rintro e w' ⟨rfl, hw'⟩
              obtain rfl : W3 = w' := hw'.symm
              clear e0 e1 x0 x1 y0 y1 m0 m1
              have htt := HTT.out
              go_wp2_with (at_builtin; (refine wpList_append_fresh _ rfl _ _ 56 rfl (w1.heap.size + 1) 55 i0 (.agg #[.int .i64 0, .string ⟨#[]⟩]) 2 24 Try.underlying56 hi hz0 hz1 hz2 rfl (by decide) _ qs.length (qcells qs cs qs.length) rfl hna ⟨W3.heap.size, 0, none⟩ 1 1 [.int .i64 (nv : Int), .string tt] rfl rfl (cell_two_new _ _ _ _) (by intro u hu; simp at hu; rcases hu with rfl | rfl <;> rfl) (by decide) (by unfold maxLen; omega) (by omega) hbo ?_); intro g cap w2 hown hgr hfr; have HO : Hid _ := hown; have HG : Hid _ := hgr; have HF : Hid _ := hfr; clear hown hgr hfr)
              go_roundw
              case rel =>
                have hlq : cs.length = qs.length := hqq
                have hg := HG.out
                have hfr := HF.out
                have ho := HO.out
                have ecell : qcells qs cs qs.length ++ [.int .i64 (nv : Int), .string tt] = qcells (qs ++ [nv]) (cs ++ [tt]) (qs ++ [nv]).length := by
                  rw [List.length_append, List.length_singleton, qcells_succ]
                  congr 1
                  · exact qcells_congr (fun j hj => (getD_app qs nv j hj).symm) (fun j hj => (bgetD_app cs tt j (by omega)).symm)
                  · rw [getD_snoc_eq, ← hlq, bgetD_new]
                rw [ecell] at ho
                have hsz3 : W3.heap.size ≤ w2.heap.size := by have := hg.size; simp at this; omega
                have hmem : FirstMem w1 w1.heap.size w2 (qs ++ [nv]) (cs ++ [tt]) (.slice (some ⟨g, 0, none⟩) (qs.length + 1) cap) := by
                  refine ⟨?_, ?_, ?_⟩
                  · exact (K1.out.alloc (by omega) _).grown hg (by simp; omega) (fun x e => by have := (hna.lt x e).1; omega)
                  · exact rowIs_grown (World.rowIs.alloc K2.out _) hg (fun e => by have := (hna.lt _ e).1; omega)
                  · have e1 : (qs ++ [nv]).length = qs.length + 1 := by simp
                    rw [e1] at ho ⊢; exact ho
                have hnq : M.nxt (qs.getD ((8 * k + c) / 8) 0) ((8 * k + c) % 8) ∉ qs := by rw [HSQ.out]; exact HM.out
                have hq := HQ.out.q.new hM (by omega) hnq
                rw [HSQ.out, show (8 * k + c) / 8 = k by omega, show (8 * k + c) % 8 = c by omega, map_getD, HT.out, show notesOf t ++ [c] = notesOf tt by rw [← HTT.out, notesOf_append, notesOf_note c hl8]] at hq
                refine ⟨c + 1, qs ++ [nv], cs ++ [tt], by omega, by go_num, by simp; omega, by unfold Hid; rw [getD_app _ _ _ hlt]; exact HS.out, by unfold Hid; rw [bgetD_app _ _ _ (by omega)]; exact HT.out, ?_, ⟨by rw [← Nat.add_assoc]; simpa using hq, ?_⟩, ⟨hmem, ?_, HS0, ?_⟩⟩
                · intro j hj; rw [getD_app _ _ _ (by omega)]; exact HNO.out j hj
                · intro j hj
                  by_cases e : j = cs.length
                  · subst e; rw [bgetD_new, ← HTT.out]; exact isText_push _ _ HTX.out (isText_note c hl8)
                  · have hj' : j < cs.length := by simp at hj; omega
                    rw [bgetD_app _ _ _ hj']; exact HQ.out.txt j hj'
                · rw [hg.block _ (by simp; omega) (fun e => HP.out.dq e.symm), Below.heap_alloc _ _ _ (by omega)]; exact K4.out
                · intro e
                  simp only [Value.ownBlock, Option.some.injEq] at e
                  rcases hfr with h' | h'
                  · exact HP.out.dq (by rw [← e]; exact h')
                  · simp at h'; omega
              case measure => simp [intOf]; omega
          · have hc8 : c = 8 := by omega
            subst hc8
            have HP : Hid (FRound w1 w1.heap.size wo.heap.size wr qs cs (.slice (some ⟨gq', 0, none⟩) qs.length cq') s t) := hP
            have HQ : Hid (QT M qs cs (8 * k + 8)) := hQ
            clear hP hQ haq hcq hbW hbw
            go_wp2_with fail
            go_roundw
            case rel =>
              exact ⟨k + 1, qs, cs, by omega, by go_num, by rw [show 8 * (k + 1) = 8 * k + 8 by omega]; exact HQ.out, HNO.out, HP.out.mem⟩
            case measure => simp [intOf]; omega
      · rw [hac] at y2
        have HAC : Hid (M.acc s = true) := hac
        have HQ : Hid (QT M ps bs (8 * k)) := hQ
        clear hac hP hQ haq hcq hqk
        go_wp2_with fail
        go_ret3
        refine ⟨(hbw.alloc (by have := hbw.size; omega) _), .inl ⟨t, rfl, HTX.out, by omega, ?_, fun y hy ha => ?_⟩⟩
        · rw [Tab.accepts, HTR.out]; exact HAC.out
        · have := HQ.out.q.found hlt HNO.out y hy ha
          rw [map_getD, HT.out] at this; exact this
    · have he : k = ps.length := by omega
      subst he
      have HQ : Hid (QT M ps bs (8 * ps.length)) := hQ
      clear hP hQ haq
      go_wp2_with fail
      go_ret3
      exact ⟨hbw, .inr ⟨rfl, fun y hy => HQ.out.q.none HNO.out y hy⟩⟩

set_option maxRecDepth 20000 in
set_option maxHeartbeats 400000 in
theorem first_ok (V : Lay) (M : Tab) (w : World) (hM : M.Ok) (hV : TabAt w V M) :
    Calls Try.prog 20 #[.agg #[.slice (some ⟨V.ba, V.oa, none⟩) M.n V.ca, .slice (some ⟨V.bn, V.on, none⟩) M.n V.cn]] w (FirstPost M w) := by
  have B1 : Below w.heap.size w (w.alloc (.cells #[.slice (some ⟨V.ba, V.oa, none⟩) M.n V.ca, .slice (some ⟨V.bn, V.on, none⟩) M.n V.cn] 26)) := (Below.refl _ _).alloc (Nat.le_refl _) _
  have h1 := hV.below B1
  go_enter Try.func20, Try.ntmps20
  go_wp2_with fail
  refine (tfirst_ok V M _ hM h1).mono ?_
  rintro e w1 ⟨hb1, hc⟩
  have hB := B1.trans (hb1.mono (by simp))
  rcases hc with ⟨s, rfl, h2, h3, h4, h5⟩ | ⟨rfl, h2⟩
  · have H5 : Hid _ := h5
    clear h5
    go_wp2
    go_ret3
    exact ⟨hB, .inl ⟨s, rfl, h2, h3, h4, H5.out⟩⟩
  · have H2 : Hid _ := h2
    clear h2
    go_wp2
    go_ret3
    exact ⟨hB, .inr ⟨rfl, H2.out⟩⟩
end Go.Proofs.Ytpngikmcjkjdaaa
