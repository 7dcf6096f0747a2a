import Derived.Deep.Upon
import Derived.Test.YtpngikmcjkjdaabG1
import Derived.Test.YtpngikmcjkjdaabG4
import Derived.Test.YtpngikmcjkjdaabG5
set_option linter.unusedVariables false
set_option linter.unusedSimpArgs false
namespace Go.Proofs.Ytpngikmcjkjdaab
open Go.RowKit
set_option linter.unusedVariables false
set_option linter.unusedSimpArgs false
theorem wantL_filter (d : Cu) (M : Tab) (t : Nat → ByteArray) (n : Nat) : wantL d M t n = ((List.range n).map t).filter (wantB d M) := by
  induction n with
  | zero => rfl
  | succ n ih =>
    rw [List.range_succ, List.map_append, List.filter_append, ← ih, wantL]
    cases h : wantB d M (t n) <;> simp [h]
def Inc (l : List ByteArray) : Prop := l.Pairwise (fun a b => less a b = true)
theorem inc_range {t : Nat → ByteArray} {n : Nat} (h : SrtB t n) : Inc ((List.range n).map t) := by
  unfold Inc
  rw [List.pairwise_map]
  refine List.Pairwise.imp_of_mem (fun {a b} ha hb hab => ?_) (List.pairwise_lt_range (n := n))
  exact h a b hab (List.mem_range.1 hb)
def allW (M : Tab) (t : Nat → ByteArray) (n : Nat) : List ByteArray := wantL shut M t n
theorem allW_inc (M : Tab) {t : Nat → ByteArray} {n : Nat} (h : SrtB t n) : Inc (allW M t n) := by
  unfold allW
  rw [wantL_filter]
  exact (inc_range h).filter _
theorem mem_allW {M : Tab} {t : Nat → ByteArray} {n : Nat} {s : ByteArray} : s ∈ allW M t n ↔ (∃ i, i < n ∧ t i = s) ∧ M.accepts (notesOf s) = true := by
  unfold allW
  rw [wantL_filter, List.mem_filter, List.mem_map]
  simp [wantB, shut]
def cuG (U : Lay) (M : Tab) (W : List ByteArray) (g : Nat) : Cu := if g = 0 then openCu U M.n else { openCu U M.n with bg := true, la := W.getD (g - 1) ByteArray.empty }
theorem filter_parts {A B : List ByteArray} {a : ByteArray} (h : Inc (A ++ a :: B)) : (A ++ a :: B).filter (fun s => less a s) = B := by
  unfold Inc at h
  rw [List.pairwise_append, List.pairwise_cons] at h
  obtain ⟨_, ⟨h1, _⟩, h2⟩ := h
  rw [List.filter_append, List.filter_cons, less_irrefl]
  have e1 : A.filter (fun s => less a s) = [] := by
    rw [List.filter_eq_nil_iff]
    intro x hx
    have := less_asymm (h2 x hx a (by simp))
    simp [this]
  have e2 : B.filter (fun s => less a s) = B := by
    rw [List.filter_eq_self]
    exact fun x hx => h1 x hx
  simp only [Bool.false_eq_true, if_false]
  rw [e1, e2, List.nil_append]
theorem filter_behind {W : List ByteArray} (h : Inc W) {g : Nat} (hg : g < W.length) : W.filter (fun s => less (W[g]) s) = W.drop (g + 1) := by
  have e : W.take g ++ W[g] :: W.drop (g + 1) = W := by rw [← List.drop_eq_getElem_cons hg, List.take_append_drop]
  have h' : Inc (W.take g ++ W[g] :: W.drop (g + 1)) := by rw [e]; exact h
  have := filter_parts h'
  rw [e] at this
  exact this
theorem want_behind {U : Lay} {M : Tab} {t : Nat → ByteArray} {n : Nat} (h : SrtB t n) {g : Nat} (hg : g ≤ (allW M t n).length) : wantL (cuG U M (allW M t n) g) M t n = (allW M t n).drop g := by
  by_cases h0 : g = 0
  · subst h0
    rw [List.drop_zero]
    unfold cuG allW
    rw [if_pos rfl]
    rw [wantL_filter, wantL_filter]
    congr 1
  · obtain ⟨j, rfl⟩ : ∃ j, g = j + 1 := ⟨g - 1, by omega⟩
    have hj : j < (allW M t n).length := by omega
    rw [← filter_behind (allW_inc M h) hj]
    unfold cuG
    rw [if_neg h0, Nat.add_sub_cancel, List.getD_eq_getElem?_getD, List.getElem?_eq_getElem hj]
    generalize hla : (allW M t n)[j] = la
    unfold allW
    rw [wantL_filter, wantL_filter, List.filter_filter]
    congr 1
    funext s
    simp [wantB, shut, openCu]
theorem choose_behind {U : Lay} {M : Tab} {t : Nat → ByteArray} {n g l : Nat} (h : SrtB t n) (hg : g ≤ (allW M t n).length) : chooseL (cuG U M (allW M t n) g) M t n l = ((allW M t n).drop g).take l ∧ chooseB (cuG U M (allW M t n) g) M t n l = decide ((allW M t n).length - g ≤ l) := by
  unfold chooseL chooseB
  rw [want_behind h hg, List.length_drop]
  exact ⟨rfl, rfl⟩
def curG (U : Lay) (M : Tab) (W : List ByteArray) (g : Nat) : Nat → Cu := setCu (fun _ => shut) 0 (cuG U M W g)
theorem cuG_parts (U : Lay) (M : Tab) (W : List ByteArray) (g : Nat) : (cuG U M W g).op = true ∧ (cuG U M W g).vA = .slice (some ⟨U.ba, U.oa, none⟩) M.n U.ca ∧ (cuG U M W g).vN = .slice (some ⟨U.bn, U.on, none⟩) M.n U.cn := by
  unfold cuG
  split <;> exact ⟨rfl, rfl, rfl⟩
theorem next_behind (U : Lay) (M : Tab) (W : List ByteArray) {g l : Nat} (hg : g ≤ W.length) : nextC (curG U M W g) 0 ((W.drop g).take l) = curG U M W (g + ((W.drop g).take l).length) := by
  unfold nextC
  have hln : ((W.drop g).take l).length = min l (W.length - g) := by rw [List.length_take, List.length_drop]
  obtain ⟨n, hn⟩ : ∃ n, ((W.drop g).take l).length = n := ⟨_, rfl⟩
  rw [hn] at hln ⊢
  by_cases h0 : n = 0
  · have e : (W.drop g).take l = [] := List.length_eq_zero_iff.1 (by omega)
    rw [e, h0]
    rfl
  · have e : ((W.drop g).take l).getLast? = some (W.getD (g + n - 1) ByteArray.empty) := by
      rw [List.getLast?_eq_getElem?, hn, List.getElem?_take_of_lt (show n - 1 < l by omega), List.getElem?_drop, List.getD_eq_getElem?_getD, show g + n - 1 = g + (n - 1) by omega, List.getElem?_eq_getElem (show g + (n - 1) < W.length by omega)]
      rfl
    rw [e]
    simp only
    funext i
    by_cases ei : i = 0
    · subst ei
      obtain ⟨h1, h2, h3⟩ := cuG_parts U M W g
      have e2 : curG U M W (g + n) 0 = Cu.mk true (.slice (some ⟨U.ba, U.oa, none⟩) M.n U.ca) (.slice (some ⟨U.bn, U.on, none⟩) M.n U.cn) true (W.getD (g + n - 1) ByteArray.empty) := by
        show cuG U M W (g + n) = _
        unfold cuG
        rw [if_neg (by omega)]
        rfl
      rw [e2]
      show Cu.mk (cuG U M W g).op (cuG U M W g).vA (cuG U M W g).vN true _ = _
      rw [h1, h2, h3]
    · unfold curG
      simp only [setCu, if_neg ei]
theorem close_behind (U : Lay) (M : Tab) (W : List ByteArray) (g : Nat) : closeC (curG U M W g) 0 = fun _ => shut := by
  have ho : opB (curG U M W g) 0 = true := by
    have := opB_at (curG U M W g) (k := 0) (by omega)
    rw [show ((0 : Nat) : Int) = 0 from rfl] at this
    rw [this]
    show (cuG U M W g).op = true
    unfold cuG
    split <;> rfl
  unfold closeC
  rw [ho]
  funext i
  show setCu (curG U M W g) 0 shut i = shut
  unfold setCu curG setCu
  by_cases ei : i = 0
  · rw [if_pos ei]
  · rw [if_neg ei, if_neg ei]
theorem pigeon {W : List ByteArray} (hW : W.Nodup) : ∀ L : List ByteArray, (∀ s ∈ W, s ∈ L) → W.length ≤ L.length := by
  induction W with
  | nil => intro L _; simp
  | cons a W ih =>
    intro L h
    have ha := h a (by simp)
    rw [List.nodup_cons] at hW
    have h1 := ih hW.2 (L.filter fun s => decide (s ≠ a)) (fun s hs => by
      have hne : s ≠ a := fun e => hW.1 (e ▸ hs)
      exact List.mem_filter.2 ⟨h s (by simp [hs]), by simpa using hne⟩)
    have h2 : (L.filter fun s => decide (s ≠ a)).length < L.length := List.length_filter_lt_length_iff_exists.2 ⟨a, ha, by simp⟩
    simp only [List.length_cons]
    omega
theorem nodup_of_len {L : List ByteArray} : ∀ {W : List ByteArray}, W.Nodup → (∀ s ∈ W, s ∈ L) → L.length ≤ W.length → L.Nodup := by
  induction L with
  | nil => intro W _ _ _; exact List.nodup_nil
  | cons a L ih =>
    intro W hW hm hl
    simp only [List.length_cons] at hl
    have ha : a ∉ L := fun h => by
      have := pigeon hW L (fun s hs => by
        rcases List.mem_cons.1 (hm s hs) with e | h'
        · rw [e]; exact h
        · exact h')
      omega
    have h1 := pigeon hW (a :: W.filter fun s => decide (s ≠ a)) (fun s hs => by
      by_cases e : s = a
      · simp [e]
      · exact List.mem_cons_of_mem _ (List.mem_filter.2 ⟨hs, by simpa using e⟩))
    simp only [List.length_cons] at h1
    rw [List.nodup_cons]
    refine ⟨ha, ih (hW.filter (fun s => decide (s ≠ a))) (fun s hs => ?_) (by omega)⟩
    have h2 := List.mem_filter.1 hs
    rcases List.mem_cons.1 (hm s h2.1) with e | h'
    · have := h2.2
      simp [e] at this
    · exact h'
end Go.Proofs.Ytpngikmcjkjdaab

namespace Go.Proofs.Ytpngikmcjkjdaab
open Go.RowKit
set_option linter.unusedVariables false
set_option linter.unusedSimpArgs false
theorem wpList_app_list {P : Program} (w : World) {ops : Array Oper} {rest : List Oper} {o : Oper} {a : Act} {Q : Exit → Act → World → Prop} (hgd : o.guard = none) (s x : Operand) (t : TypeId)
    (ho : o.op = .call { callee := .builtin .append, args := #[s, x], argTypes := #[t, t] })
    (base base2 : Nat) (e : TypeId) (i : TypeInfo) (z : Value) (bytes : Nat) (ht : P.underlying t = some (.slice e)) (hi : P.info? e = some i) (hz : i.zero = some z)
    (hsize : i.size = 1) (hby : i.bytes = bytes) (hzs : z.cells.size = 1)
    (v : Value) (n : Nat) (xs : List Value) (hs : a.eval s = v) (hown : w.ownsRow base e 1 v n xs)
    (v2 : Value) (m : Nat) (ys : List Value) (hx : a.eval x = v2) (hown2 : w.ownsRow base2 e 1 v2 m ys) (h1 : ∀ u ∈ ys, u.oneCell' = true)
    (h63 : n + m ≤ maxLen) (hbytes : (n + m) * bytes ≤ 140737488355328) (hbase : base ≤ w.heap.size)
    (h : ∀ v' w', w'.ownsRow base e 1 v' (n + m) (xs ++ ys) → w.grownBy w' v.ownBlock →
      wpList P ops Q rest (a.put o.dst v') w') : wpList P ops Q (o :: rest) a w := by
  obtain ⟨ao, cap, rfl, hc⟩ := ownsRow_shape hown2
  have hyl : ys.length = m := by have := hown2.1; omega
  by_cases hm : m = 0
  · subst hm
    obtain rfl : ys = [] := List.eq_nil_of_length_eq_zero hyl
    obtain ⟨so, scap, rfl, _⟩ := ownsRow_shape hown
    refine wpList_plain hgd fun K hK => ?_
    have hsrc : Src P i.size t (.slice ao 0 cap) 0 [] w := by
      cases ao with
      | none => exact Src.ofNil w ht cap
      | some ad => exact Src.ofSlice w ht ad 0 cap [] (by simp) (by simp) (by simp)
    have hle : n ≤ scap := by
      rcases hown.2 with ⟨h1, h2⟩ | ⟨g, c, cur, h1, _, _, h2, _⟩
      · omega
      · simp only [Value.slice.injEq] at h1; omega
    have hrun := run_append_nothing (P := P) w t t o.type e i ht hi so n scap hle (.slice ao 0 cap) hsrc
    unfold Oper.wp execOp
    simp only [ho, resolve, invoke, builtin, Sem.run_bind, Sem.run_pure, Result.andThen_ok, List.map_toArray, List.map_cons, List.map_nil, hs, hx, hrun]
    refine hK _ _ (h _ _ ?_ ⟨rfl, rfl, rfl, Nat.le_refl _, fun _ _ _ => rfl⟩)
    rw [List.append_nil]; exact hown
  · obtain ⟨g, rfl, hcell⟩ := hc (by omega)
    refine wpList_append_fresh w hgd s x t ho base e i z 1 bytes ht hi hz hsize hby hzs (by decide) v n xs hs hown ⟨g, 0, none⟩ m cap ys hx (by omega) ?_ h1 (by omega) h63 hbytes hbase (fun g cap w' h2 h3 _ => h _ _ h2 h3)
    intro j u hu
    have hj : j < m := by rw [← hyl]; exact (List.getElem?_eq_some_iff.1 hu).1
    have := hcell j (by omega)
    rw [show (⟨g, 0, none⟩ : Addr).add j = ⟨g, j, none⟩ by simp [Addr.add]; omega, this, hu]
end Go.Proofs.Ytpngikmcjkjdaab

namespace Go.Proofs.Ytpngikmcjkjdaab
open Go.RowKit
set_option linter.unusedVariables false
set_option linter.unusedSimpArgs false
theorem own_set {w : World} {base e g n cap i : Nat} {xs : List Value} (h : w.ownsRow base e 1 (.slice (some ⟨g, 0, none⟩) n cap) n xs) (v : Value) : (w.setCell ⟨g, i, none⟩ v).ownsRow base e 1 (.slice (some ⟨g, 0, none⟩) n cap) n (xs.set i v) := by
  refine ⟨by rw [List.length_set]; exact h.1, ?_⟩
  rcases h.2 with ⟨h1, _⟩ | ⟨g', cap', cur, h1, h2, h3, h4, h5, h6, h7⟩
  · cases h1
  · injection h1 with e1 e2 e3
    injection e1 with e1
    injection e1 with e1
    subst e1
    subst e3
    refine .inr ⟨g, cap, cur.setIfInBounds i v, rfl, h2, ?_, h4, h5, by simpa using h6, ?_⟩
    · simp [World.setCell, Array.getElem?_modify, h3]
    · rw [Array.toList_setIfInBounds, List.take_set, h7]
set_option maxRecDepth 20000 in
set_option maxHeartbeats 1000000 in
theorem ksame_ok (w : World) (va vb : Value) (ba bb : Nat) (l : List ByteArray) (hl : l.length ≤ 100000) (ha : w.ownsRow ba 9 1 va l.length (strs l)) (hb : w.ownsRow bb 9 1 vb l.length (strs l)) :
    Calls Try.prog 30 #[va, vb] w fun e w' => e = .returned (.bool true) ∧ Below w.heap.size w w' := by
  obtain ⟨aa, ca, rfl, sa⟩ := ownsRow_shape ha
  obtain ⟨ab, cb, rfl, sb⟩ := ownsRow_shape hb
  obtain ⟨n, HN⟩ : ∃ n, Hid (l.length = n) := ⟨_, rfl⟩
  have hc : ∀ i, i < n → ∃ g1 g2 x, aa = some ⟨g1, 0, none⟩ ∧ ab = some ⟨g2, 0, none⟩ ∧ w.cell? ⟨g1, i, none⟩ = some (.string x) ∧ w.cell? ⟨g2, i, none⟩ = some (.string x) := by
    intro i hi
    rw [← HN.out] at hi
    obtain ⟨g1, e1, c1⟩ := sa (by omega)
    obtain ⟨g2, e2, c2⟩ := sb (by omega)
    have hx : (strs l)[i]? = some (.string l[i]) := by simp [strs, hi]
    exact ⟨g1, g2, l[i], e1, e2, (c1 i (by omega)).trans hx, (c2 i (by omega)).trans hx⟩
  rw [HN.out] at hl ⊢
  clear ha hb sa sb
  go_enter Try.func30, Try.ntmps30
  go_wp2_with fail
  go_loopw [5] (fun i' wr => ∃ i : Nat, i ≤ n ∧ i' = .int .i64 (i : Int) ∧ Below w.heap.size w wr) (fun i' _ => n - (intOf i').toNat)
  case atStart => exact ⟨0, by omega, rfl, Below.refl _ _⟩
  case round =>
    obtain ⟨i, hi, rfl, hb⟩ := hrel
    have HB : Hid (Below w.heap.size w wr) := hb
    by_cases hlt : i < n
    · obtain ⟨g1, g2, x, rfl, rfl, c1, c2⟩ := hc i hlt
      have d1 := ((bcell hb).1 g1 i (lt_of_cell c1)).trans c1
      have d2 := ((bcell hb).1 g2 i (lt_of_cell c2)).trans c2
      have q1 : (i : Int) < (n : Int) := by omega
      have q2 : (x.toList == x.toList) = true := by rw [beq_str]; simp
      clear hb c1 c2 hc
      go_wp2_with fail
      go_quiet (fail)
      go_wp2_with fail
      go_roundw
      case rel => exact ⟨i + 1, by omega, by go_num, below_drewN HB.out nq⟩
      case measure => simp [intOf]; omega
    · have q1 : ¬ (i : Int) < (n : Int) := by omega
      have e : i = n := by omega
      subst e
      clear hb hc
      go_wp2_with fail
      go_ret
      exact ⟨rfl, HB.out⟩
theorem not_gt {a b : ByteArray} : (!(Op.bytesLess a.toList b.toList || a.toList == b.toList)) = less b a := by
  rw [beq_str]
  show (!(less a b || decide (a = b))) = less b a
  by_cases e : a = b
  · subst e; simp [less_irrefl]
  · cases h : less a b with
    | true => simp [less_asymm h]
    | false => simp [e, less_tri h e]
def LeS (L : List ByteArray) : Prop := L.Pairwise (fun a b => less b a = false)
theorem insAt_srt {O : List ByteArray} (h : LeS O) {x : ByteArray} {k : Nat} (hk : k ≤ O.length) (h1 : ∀ j (hj : j < O.length), k ≤ j → less x O[j] = true) (h2 : ∀ (h0 : 0 < k), less x (O[k - 1]'(by omega)) = false) : LeS (O.take k ++ x :: O.drop k) := by
  unfold LeS at h ⊢
  have hsp : (O.take k ++ O.drop k).Pairwise (fun a b => less b a = false) := by rw [List.take_append_drop]; exact h
  rw [List.pairwise_append] at hsp ⊢
  obtain ⟨p1, p2, p3⟩ := hsp
  refine ⟨p1, ?_, ?_⟩
  · rw [List.pairwise_cons]
    refine ⟨fun b hb => ?_, p2⟩
    obtain ⟨j, hj, rfl⟩ := List.getElem_of_mem hb
    rw [List.length_drop] at hj
    rw [List.getElem_drop]
    exact less_asymm (h1 _ (by omega) (by omega))
  · intro a ha b hb
    rw [List.mem_cons] at hb
    rcases hb with rfl | hb
    · obtain ⟨j, hj, rfl⟩ := List.getElem_of_mem ha
      rw [List.length_take] at hj
      rw [List.getElem_take]
      have hk0 : 0 < k := by omega
      have hl := h2 hk0
      by_cases e : j = k - 1
      · subst e; exact hl
      · have := List.pairwise_iff_getElem.1 h j (k - 1) (by omega) (by omega) (by omega)
        rw [Bool.eq_false_iff]
        intro hc
        by_cases e2 : O[j] = O[k - 1]
        · rw [e2, hl] at hc; cases hc
        · have h3 := less_tri (a := O[k - 1]'(by omega)) (b := O[j]'(by omega)) this (fun e' => e2 e'.symm)
          have := less_trans hc h3
          rw [hl] at this; cases this
    · exact p3 a ha b hb
theorem mem_insAt {O : List ByteArray} {x s : ByteArray} {k : Nat} : s ∈ O.take k ++ x :: O.drop k ↔ s ∈ O ∨ s = x := by
  rw [List.mem_append, List.mem_cons]
  conv => rhs; rw [← List.take_append_drop k O, List.mem_append]
  constructor
  · rintro (h | h | h)
    · exact .inl (.inl h)
    · exact .inr h
    · exact .inl (.inr h)
  · rintro ((h | h) | h)
    · exact .inl h
    · exact .inr (.inr h)
    · exact .inr (.inl h)
def sinkL (O : List ByteArray) (x : ByteArray) (k : Nat) : List ByteArray := (O ++ [x]).take (k + 1) ++ O.drop k
theorem sink_len (O : List ByteArray) (x : ByteArray) {k : Nat} (hk : k ≤ O.length) : (sinkL O x k).length = O.length + 1 := by
  simp [sinkL]; omega
theorem sink_top (O : List ByteArray) (x : ByteArray) : sinkL O x O.length = O ++ [x] := by
  rw [sinkL, List.drop_length, List.append_nil, List.take_of_length_le (by simp)]
theorem sink_at (O : List ByteArray) (x : ByteArray) {k j : Nat} (hk : k ≤ O.length) (hj : j < k) : (sinkL O x k)[j]? = O[j]? := by
  rw [sinkL, List.getElem?_append_left (by simp; omega), List.getElem?_take, if_pos (by omega), List.getElem?_append_left (by omega)]
theorem sink_step (O : List ByteArray) (x : ByteArray) {k : Nat} (hk : k + 1 ≤ O.length) : (sinkL O x (k + 1)).set (k + 1) (O[k]'(by omega)) = sinkL O x k := by
  apply List.ext_getElem?
  intro j
  rw [List.getElem?_set]
  have hl := sink_len O x hk
  have e1 : ∀ m, m ≤ O.length → ∀ i, (sinkL O x m)[i]? = if i < m + 1 then (O ++ [x])[i]? else O[i - 1]? := by
    intro m hm i
    rw [sinkL]
    have hlt : ((O ++ [x]).take (m + 1)).length = m + 1 := by simp; omega
    by_cases h : i < m + 1
    · rw [if_pos h, List.getElem?_append_left (by omega), List.getElem?_take, if_pos h]
    · rw [if_neg h, List.getElem?_append_right (by omega), hlt, List.getElem?_drop]
      congr 1; omega
  rw [e1 (k + 1) (by omega), e1 k (by omega)]
  by_cases h : k + 1 = j
  · subst h
    rw [if_pos rfl, if_pos (by omega), if_neg (by omega), Nat.add_sub_cancel, List.getElem?_eq_getElem (by omega)]
  · rw [if_neg h]
    by_cases h2 : j < k + 1
    · rw [if_pos (by omega), if_pos h2]
    · rw [if_neg (by omega), if_neg h2]
theorem sink_end (O : List ByteArray) (x : ByteArray) {k : Nat} (hk : k ≤ O.length) : (sinkL O x k).set k x = O.take k ++ x :: O.drop k := by
  apply List.ext_getElem?
  intro j
  rw [List.getElem?_set]
  have hl := sink_len O x hk
  have hlt : ((O ++ [x]).take (k + 1)).length = k + 1 := by simp; omega
  have htk : (O.take k).length = k := by simp; omega
  by_cases h : k = j
  · subst h
    rw [if_pos rfl, if_pos (by omega), List.getElem?_append_right (by omega), htk, Nat.sub_self]; rfl
  · rw [if_neg h, sinkL]
    by_cases h2 : j < k
    · rw [List.getElem?_append_left (by omega), List.getElem?_append_left (by omega), List.getElem?_take, List.getElem?_take, if_pos (by omega), if_pos h2, List.getElem?_append_left (by omega)]
    · rw [List.getElem?_append_right (by omega), List.getElem?_append_right (by omega), hlt, htk, List.getElem?_cons, if_neg (by omega), List.getElem?_drop, List.getElem?_drop]
      congr 1 <;> omega
theorem strs_set (l : List ByteArray) (i : Nat) (x : ByteArray) : (strs l).set i (.string x) = strs (l.set i x) := by simp [strs, List.map_set]
theorem strs_get {l : List ByteArray} {i : Nat} (h : i < l.length) : (strs l)[i]? = some (.string l[i]) := by simp [strs, h]
theorem strs_get? {l : List ByteArray} {i : Nat} {x : ByteArray} (h : l[i]? = some x) : (strs l)[i]? = some (.string x) := by simp [strs, h]
set_option maxRecDepth 20000 in
set_option maxHeartbeats 4000000 in
theorem sorted_ok (w : World) (v : Value) (b0 : Nat) (l : List ByteArray) (hl : l.length ≤ 100000) (hv : w.ownsRow b0 9 1 v l.length (strs l)) :
    Calls Try.prog 27 #[v] w fun e w' => Below w.heap.size w w' ∧ ∃ u L, e = .returned u ∧ w'.ownsRow w.heap.size 9 1 u L.length (strs L) ∧ L.length = l.length ∧ LeS L ∧ ∀ s, s ∈ L ↔ s ∈ l := by
  obtain ⟨i0, hi0, hz0, hz01, hz02⟩ := info_parts Try.infoStr
  obtain ⟨aa, ca, rfl, sa⟩ := ownsRow_shape hv
  have hc : ∀ i (hi : i < l.length), ∃ g, aa = some ⟨g, 0, none⟩ ∧ w.cell? ⟨g, i, none⟩ = some (.string l[i]) := by
    intro i hi
    obtain ⟨g1, e1, c1⟩ := sa (by omega)
    exact ⟨g1, e1, (c1 i (by omega)).trans (strs_get hi)⟩
  clear sa hv
  go_enter Try.func27, Try.ntmps27
  go_wp2_with fail
  go_loopw [3, 4] (fun o' i' wr => ∃ (i : Nat) (O : List ByteArray), i ≤ l.length ∧ i' = .int .i64 (i : Int) ∧ Below w.heap.size w wr ∧ wr.ownsRow w.heap.size 9 1 o' i (strs O) ∧ O.length = i ∧ LeS O ∧ ∀ s, s ∈ O ↔ s ∈ l.take i) (fun _ i' _ => l.length - (intOf i').toNat)
  case atStart => exact ⟨0, [], by omega, rfl, Below.refl _ _, World.ownsRow_nil _ _ _ _, rfl, List.Pairwise.nil, fun s => by simp⟩
  case round =>
    obtain ⟨i, O, hi, rfl, hb, hown, hol, hls, hmem⟩ := hrel
    have hbs := hb.size
    have HB : Hid (Below w.heap.size w wr) := hb
    have HLS : Hid (LeS O) := hls
    have HMEM : Hid (∀ s, s ∈ O ↔ s ∈ l.take i) := hmem
    have HOL : Hid (O.length = i) := hol
    clear hls hmem
    by_cases hlt : i < l.length
    · obtain ⟨g, rfl, c0⟩ := hc i hlt
      obtain ⟨x, HX⟩ : ∃ x, Hid (l[i] = x) := ⟨l[i], by unfold Hid; rfl⟩
      rw [HX.out] at c0
      have C0 : Hid (w.cell? ⟨g, i, none⟩ = some (.string x)) := c0
      have c1 := ((bcell hb).1 g i (lt_of_cell c0)).trans c0
      have q1 : (i : Int) < (l.length : Int) := by omega
      obtain ⟨oa, oc, ho3, _⟩ := ownsRow_shape hown
      subst ho3
      have hna := hown.alloc (.cells #[.string x] 9)
      have HOW : Hid (∀ y, (Value.slice oa i oc).ownBlock = some y → w.heap.size ≤ y) := fun y e => (hown.lt y e).1
      clear hown hb c0 hol
      go_wp2_with (at_builtin; refine wpList_append_fresh _ rfl _ _ 39 rfl w.heap.size 9 i0 (.string ByteArray.empty) 1 16 Try.underlying39 hi0 hz0 hz01 hz02 rfl (by decide) _ i (strs O) rfl hna ⟨wr.heap.size, 0, none⟩ 1 1 [.string x] rfl rfl (cell_one_new _ _ _) (by intro u hu; simp at hu; subst hu; rfl) (by decide) (by unfold maxLen; omega) (by omega) (by simp; omega) ?_; intro g' cap' w3 hown3 hgr hfr; have HO3 : Hid (w3.ownsRow w.heap.size 9 1 (.slice (some ⟨g', 0, none⟩) (i + 1) cap') (i + 1) (strs O ++ [.string x])) := hown3; have HB3 : Hid (Below w.heap.size w w3) := (HB.out.alloc (by omega) _).grown hgr (by simp; omega) (fun y e => HOW.out y e); clear hown3 hgr hfr hna)
      go_loopw [5] (fun k' wi => ∃ k : Nat, k ≤ i ∧ k' = .int .i64 (k : Int) ∧ Below w.heap.size w wi ∧ wi.ownsRow w.heap.size 9 1 (.slice (some ⟨g', 0, none⟩) (i + 1) cap') (i + 1) (strs (sinkL O x k)) ∧ ∀ j (hj : j < O.length), k ≤ j → less x O[j] = true) (fun k' _ => (intOf k').toNat)
      case atStart =>
        refine ⟨i, Nat.le_refl _, rfl, HB3.out, ?_, fun j hj hk => by have := HOL.out; omega⟩
        rw [← HOL.out, sink_top, ← strs_snoc, HOL.out]
        exact HO3.out
      case round =>
        obtain ⟨k, hk, rfl, hbi, hoi, hgt⟩ := hrel
        rename World => wi
        have c1i := ((bcell hbi).1 g i (lt_of_cell C0.out)).trans C0.out
        have HBI : Hid (Below w.heap.size w wi) := hbi
        have HOI : Hid (wi.ownsRow w.heap.size 9 1 (.slice (some ⟨g', 0, none⟩) (i + 1) cap') (i + 1) (strs (sinkL O x k))) := hoi
        have HGT : Hid (∀ j (hj : j < O.length), k ≤ j → less x O[j] = true) := hgt
        have hg' := hoi.lt g' rfl
        have hfz : ∀ j, wi.frozen? ⟨g', j, none⟩ = false := fun j => by
          rcases hoi.2 with ⟨e, _⟩ | ⟨g2, cap2, cur, e, _, h3, _⟩
          · cases e
          · injection e with e1 e2 e3
            injection e1 with e1
            injection e1 with e1
            subst e1
            simp [World.frozen?, h3]
        have hcell : ∀ j y, j < i + 1 → (sinkL O x k)[j]? = some y → wi.cell? ⟨g', j, none⟩ = some (.string y) := fun j y hj hy => (hoi.cellAt j (by omega)).trans (strs_get? hy)
        clear hbi hoi hgt
        cases k with
        | zero =>
          have hz0' : ¬ (0 : Int) < ((0 : Nat) : Int) := by simp
          obtain ⟨y, hy⟩ : ∃ y, (sinkL O x 0)[0]? = some y := ⟨_, List.getElem?_eq_getElem (by rw [sink_len O x (by omega)]; omega)⟩
          have d0 := hcell 0 y (by omega) hy
          have f0 := hfz 0
          have HFIN : Hid (∀ wj : World, wj.ownsRow w.heap.size 9 1 (.slice (some ⟨g', 0, none⟩) (i + 1) cap') (i + 1) (strs (sinkL O x 0)) → (wj.setCell ⟨g', 0, none⟩ (.string x)).ownsRow w.heap.size 9 1 (.slice (some ⟨g', 0, none⟩) (i + 1) cap') (i + 1) (strs (O.take 0 ++ x :: O.drop 0))) := fun wj hj => by
            have := own_set (i := 0) hj (.string x)
            rw [strs_set, sink_end O x (by omega)] at this
            exact this
          clear hfz hcell
          go_wp2_with fail
          go_quiet (fail)
          go_wp2_with fail
          go_roundw
          case rel =>
            have hO := HOL.out
            have ho := HFIN.out (wi.drewN nq) (ownsRow_below HOI.out (below_drewN (Below.refl _ _) nq))
            refine ⟨i + 1, O.take 0 ++ x :: O.drop 0, by omega, by go_num, (below_drewN HBI.out nq).setCell (p := ⟨g', 0, none⟩) hg'.1 _, ho, by simp; omega, insAt_srt HLS.out (by omega) HGT.out (fun h0 => by omega), fun s => ?_⟩
            rw [mem_insAt, HMEM.out s, List.take_add_one, List.mem_append, List.getElem?_eq_getElem hlt, HX.out]
            simp
          case measure => simp [intOf]; omega
        | succ k =>
          have hk1 : (sinkL O x (k + 1))[k]? = some (O[k]'(by have := HOL.out; omega)) := by rw [sink_at O x (by have := HOL.out; omega) (by omega), List.getElem?_eq_getElem]
          obtain ⟨ok, HOK⟩ : ∃ y, Hid (O[k]'(by have := HOL.out; omega) = y) := ⟨_, by unfold Hid; rfl⟩
          rw [HOK.out] at hk1
          have d0 := hcell k ok (by omega) hk1
          obtain ⟨y1, hy1⟩ : ∃ y, (sinkL O x (k + 1))[k + 1]? = some y := ⟨_, List.getElem?_eq_getElem (by rw [sink_len O x (by have := HOL.out; omega)]; have := HOL.out; omega)⟩
          have d1 := hcell (k + 1) y1 (by omega) hy1
          have f1 := hfz (k + 1)
          have q2 : (0 : Int) < (k : Int) + 1 := by omega
          have hwk : IntKind.i64.wrap (k : Int) = (k : Int) := by rw [IntKind.wrap_i64]; omega
          rw [show ((k + 1 : Nat) : Int) = (k : Int) + 1 by simp]
          have HFIN : Hid (∀ wj : World, wj.ownsRow w.heap.size 9 1 (.slice (some ⟨g', 0, none⟩) (i + 1) cap') (i + 1) (strs (sinkL O x (k + 1))) → (wj.setCell ⟨g', k + 1, none⟩ (.string x)).ownsRow w.heap.size 9 1 (.slice (some ⟨g', 0, none⟩) (i + 1) cap') (i + 1) (strs (O.take (k + 1) ++ x :: O.drop (k + 1)))) := fun wj hj => by
            have := own_set (i := k + 1) hj (.string x)
            rw [strs_set, sink_end O x (by have := HOL.out; omega)] at this
            exact this
          have HSTEP : Hid (∀ wj : World, wj.ownsRow w.heap.size 9 1 (.slice (some ⟨g', 0, none⟩) (i + 1) cap') (i + 1) (strs (sinkL O x (k + 1))) → (wj.setCell ⟨g', k + 1, none⟩ (.string ok)).ownsRow w.heap.size 9 1 (.slice (some ⟨g', 0, none⟩) (i + 1) cap') (i + 1) (strs (sinkL O x k))) := fun wj hj => by
            have := own_set (i := k + 1) hj (.string ok)
            rw [strs_set, ← HOK.out, sink_step O x (by have := HOL.out; omega)] at this
            rw [← HOK.out]
            exact this
          clear hfz hcell hk1 hy1
          cases hlx : less x ok with
          | true =>
            have q3 : (Op.bytesLess ok.toList x.toList || ok.toList == x.toList) = false := by
              cases hX : (Op.bytesLess ok.toList x.toList || ok.toList == x.toList) with
              | false => rfl
              | true => have := not_gt (a := ok) (b := x); rw [hX, hlx] at this; cases this
            go_wp2_with fail
            go_quiet (fail)
            go_wp2_with fail
            go_roundw
            case rel =>
              have hO := HOL.out
              have ho := HSTEP.out (wi.drewN nq) (ownsRow_below HOI.out (below_drewN (Below.refl _ _) nq))
              refine ⟨k, by omega, by go_num, (below_drewN HBI.out nq).setCell (p := ⟨g', k + 1, none⟩) hg'.1 _, ho, fun j hj hkj => ?_⟩
              by_cases e : j = k
              · subst e; rw [HOK.out]; exact hlx
              · exact HGT.out j hj (by omega)
            case measure => simp [intOf]
          | false =>
            have q3 : (Op.bytesLess ok.toList x.toList || ok.toList == x.toList) = true := by
              cases hX : (Op.bytesLess ok.toList x.toList || ok.toList == x.toList) with
              | true => rfl
              | false => have := not_gt (a := ok) (b := x); rw [hX, hlx] at this; cases this
            go_wp2_with fail
            go_quiet (fail)
            go_wp2_with fail
            go_roundw
            case rel =>
              have hO := HOL.out
              have ho := HFIN.out (wi.drewN nq) (ownsRow_below HOI.out (below_drewN (Below.refl _ _) nq))
              refine ⟨i + 1, O.take (k + 1) ++ x :: O.drop (k + 1), by omega, by go_num, (below_drewN HBI.out nq).setCell (p := ⟨g', (k + 1), none⟩) hg'.1 _, ho, by simp; omega, insAt_srt HLS.out (by omega) HGT.out (fun h0 => by rw [show O[k + 1 - 1] = ok from HOK.out]; exact hlx), fun s => ?_⟩
              rw [mem_insAt, HMEM.out s, List.take_add_one, List.mem_append, List.getElem?_eq_getElem hlt, HX.out]
              simp
            case measure => simp [intOf]; omega
    · have q1 : ¬ (i : Int) < (l.length : Int) := by omega
      have e : i = l.length := by omega
      have HO : Hid (wr.ownsRow w.heap.size 9 1 u3 i (strs O)) := hown
      clear hb hown hc
      go_wp2_with fail
      go_ret
      refine ⟨HB.out, _, rfl, O, by rw [HOL.out]; exact HO.out, by rw [HOL.out]; exact e, HLS.out, fun s => ?_⟩
      rw [HMEM.out s, e, List.take_length]
end Go.Proofs.Ytpngikmcjkjdaab

namespace Go.Proofs.Ytpngikmcjkjdaab
open Go.RowKit
set_option linter.unusedVariables false
set_option linter.unusedSimpArgs false
def pickN (c : Int) (n : Nat) : Nat := ((if c < 0 then -(c + 1) else c) % n).toNat
theorem pickN_lt (c : Int) (n : Nat) (h : 0 < n) : pickN c n < n := by
  unfold pickN
  have h1 := Int.emod_lt_of_pos (if c < 0 then -(c + 1) else c) (b := (n : Int)) (by omega)
  have h2 := Int.emod_nonneg (if c < 0 then -(c + 1) else c) (b := (n : Int)) (by omega)
  omega
theorem neg_tmod_emod (c n : Int) (h : c < 0) : -((c + 1).tmod n) = (-(c + 1)) % n := by
  rw [← Int.neg_tmod, Int.tmod_eq_emod_of_nonneg (by omega)]
set_option maxRecDepth 20000 in
set_option maxHeartbeats 400000 in
theorem pick_any (c : Int) (n : Int) (w : World) (h1 : 1 ≤ n) (h2 : n ≤ 1099511627776) (hc1 : -9223372036854775808 ≤ c) (hc2 : c ≤ 9223372036854775807) :
    Calls Try.prog 17 #[.int .i64 c, .int .i64 n] w fun e w' => e = .returned (.int .i64 (pickN c n.toNat)) ∧ w' = w := by
  have hn : ((n.toNat : Nat) : Int) = n := by omega
  by_cases h : c < 0
  · have he : ((pickN c n.toNat : Nat) : Int) = (-(c + 1)) % n := by
      unfold pickN; rw [if_pos h, hn]; have := Int.emod_nonneg (-(c+1)) (b := n) (by omega); omega
    rw [he]
    clear he hn
    go_enter Try.func17, Try.ntmps17
    go_wp2
    go_ret
    exact ⟨ret_int (neg_tmod_emod c n h), rfl⟩
  · have he : ((pickN c n.toNat : Nat) : Int) = c % n := by
      unfold pickN; rw [if_neg h, hn]; have := Int.emod_nonneg c (b := n) (by omega); omega
    rw [he]
    clear he hn
    go_enter Try.func17, Try.ntmps17
    go_wp2
    go_ret
    exact ⟨rfl, rfl⟩
structure CodeAt (w : World) (ao : Option Addr) (len : Nat) (z : Nat → Int) : Prop where
  ln : len ≤ 9223372036854775807
  cell : ∀ t, t < len → ∃ b o, ao = some ⟨b, o, none⟩ ∧ w.cell? ⟨b, o + t, none⟩ = some (.int .i64 (z t))
  rng : ∀ t, t < len → -9223372036854775808 ≤ z t ∧ z t ≤ 9223372036854775807
theorem CodeAt.below {w w' : World} {ao : Option Addr} {len : Nat} {z : Nat → Int} (h : CodeAt w ao len z) (hb : Below w.heap.size w w') : CodeAt w' ao len z :=
  ⟨h.ln, fun t ht => by obtain ⟨b, o, e, hc⟩ := h.cell t ht; exact ⟨b, o, e, by rw [(bcell hb).1 _ _ (lt_of_cell hc)]; exact hc⟩, h.rng⟩
end Go.Proofs.Ytpngikmcjkjdaab

namespace Go.Proofs.Ytpngikmcjkjdaab
open Go.RowKit
set_option linter.unusedVariables false
theorem conv_note (pv : Nat) (h : pv < 8) (u : World) : Sem.run Try.prog (convert 70 9 (.slice (some ⟨u.heap.size, 0, none⟩) 1 1)) (u.alloc (.cells #[.int .u8 (97 + (pv : Int))] 5)) =
    .ok (.string ⟨#[noteB pv]⟩) (u.alloc (.cells #[.int .u8 (97 + (pv : Int))] 5)) := by
  have h1 := run_convert_bytes_back (P := Try.prog) (u.alloc (.cells #[.int .u8 (97 + (pv : Int))] 5)) 70 9 5 ⟨u.heap.size, 0, none⟩ 1 [noteB pv] Try.underlying70 Try.underlying5 Try.underlying9 (by
    intro j hj
    have : j = 0 := by simp at hj; omega
    subst this
    have := cell_one_new u (.int .u8 (97 + (pv : Int))) 5 0 _ rfl
    rw [this]
    simp only [List.getElem_cons_zero, toNat_note pv h]
    rfl)
  exact h1
end Go.Proofs.Ytpngikmcjkjdaab
