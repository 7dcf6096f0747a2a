import Derived.Test.YtpngikmcjkjdaaaGreatDoorG13
import Derived.Test.YtpngikmcjkjdaaaGreatDoorG14
import Derived.Test.YtpngikmcjkjdaaaGreatDoorG3
set_option linter.unusedVariables false
set_option linter.unusedSimpArgs false
namespace Go.Proofs.YtpngikmcjkjdaaaGreatDoor
open Go.RowKit
set_option linter.unusedVariables false
set_option linter.unusedSimpArgs false
theorem txt_extract (s : ByteArray) (a b : Nat) : txt (s.extract a b) = sub s a b := by
  unfold txt sub txt
  rw [ByteArray.data_extract, Array.toList_extract, List.extract_eq_take_drop, List.map_take, List.map_drop]
  rw [List.drop_take]
theorem drop_cons {s : ByteArray} {k : Nat} (h : k < s.size) : (txt s).drop k = byteAt s k :: (txt s).drop (k + 1) := by
  have h' : k < (txt s).length := by rw [txt_len]; exact h
  rw [List.drop_eq_getElem_cons h']
  have := txt_get h
  rw [List.getElem?_eq_getElem h'] at this
  simp at this
  rw [this]
theorem drop_end (s : ByteArray) : (txt s).drop s.size = [] := List.drop_of_length_le (by rw [txt_len]; omega)
theorem Tryz.infoStrR : (Tryz.prog.info? 9).map (fun i => (i.zero, i.size, i.bytes)) = some (some (.string ByteArray.empty), 1, 16) := by kernel_rfl
set_option maxRecDepth 20000 in
set_option maxHeartbeats 2000000 in
theorem rclosing_ok (s : ByteArray) (i : Nat) (w : World) (hs : s.size ≤ 40) (hi : i ≤ s.size) : Calls Tryz.prog 174 #[.string s, .int .i64 (i : Int)] w fun e w' => e = .returned (.int .i64 (closF ((txt s).drop i) 0 i : Nat)) ∧ w = w' := by
  obtain ⟨R, HR⟩ : ∃ x, Hid (closF ((txt s).drop i) 0 i = x) := ⟨_, rfl⟩
  rw [HR.out]
  go_enter Tryz.func174, Tryz.ntmps174
  go_wp2_with fail
  go_loop [5, 6] (fun n' k' => ∃ (n : Int) (k : Nat), k ≤ s.size ∧ -40 ≤ n - k + s.size ∧ -(k : Int) ≤ n ∧ n ≤ k ∧ n' = .int .i64 n ∧ k' = .int .i64 (k : Int) ∧ Hid (closF ((txt s).drop k) n k = R)) (fun _ k' => s.size - (intOf k').toNat)
  case atStart => exact ⟨0, i, hi, by omega, by omega, by omega, rfl, rfl, HR⟩
  case round =>
    obtain ⟨n, k, hk, hn0, hn1, hn2, rfl, rfl, HK⟩ := hrel
    clear HR
    by_cases hlt : k < s.size
    · have hd := drop_cons hlt
      rw [hd] at HK
      clear hd
      have hce := byteAt_eq hlt
      obtain ⟨c, HC⟩ : ∃ x, Hid (byteAt s k = x) := ⟨byteAt s k, rfl⟩
      have hsc : s[k].toNat = c := by rw [← hce]; exact HC.out
      rw [HC.out] at HK
      clear hce HC
      by_cases h40 : c = 40
      · have t40 : ((s[k].toNat : Int) == 40) = true := by rw [hsc, h40]; rfl
        have t41 : ((s[k].toNat : Int) == 41) = false := by rw [hsc, h40]; rfl
        have HN : Hid (closF ((txt s).drop (k + 1)) (n + 1) (k + 1) = R) := by
          have := HK.out
          simp only [closF] at this
          rw [if_pos h40] at this
          exact this
        clear h40 hsc HK
        go_wp2_with fail
        go_round
        case rel => exact ⟨n + 1, k + 1, by omega, by omega, by omega, by omega, by go_num, by go_num, HN⟩
        case measure => simp [intOf]; omega
      · have t40 : ((s[k].toNat : Int) == 40) = false := by rw [hsc]; simp; omega
        by_cases h41 : c = 41
        · have t41 : ((s[k].toNat : Int) == 41) = true := by rw [hsc, h41]; rfl
          by_cases hn : n - 1 = 0
          · have hR : R = k := by
              have := HK.out
              simp only [closF] at this
              rw [if_neg h40, if_pos h41, if_pos hn] at this
              exact this.symm
            obtain rfl : n = 1 := by omega
            subst hR
            clear h40 h41 hsc HK hn
            go_wp2_with fail
            go_ret
            exact ⟨rfl, rfl⟩
          · have HN : Hid (closF ((txt s).drop (k + 1)) (n - 1) (k + 1) = R) := by
              have := HK.out
              simp only [closF] at this
              rw [if_neg h40, if_pos h41, if_neg hn] at this
              exact this
            have tn : ((n - 1 : Int) == 0) = false := by simp; omega
            clear h40 h41 hsc HK
            go_wp2_with fail
            go_round
            case rel => exact ⟨n - 1, k + 1, by omega, by omega, by omega, by omega, by go_num, by go_num, HN⟩
            case measure => simp [intOf]; omega
        · have t41 : ((s[k].toNat : Int) == 41) = false := by rw [hsc]; simp; omega
          have HN : Hid (closF ((txt s).drop (k + 1)) n (k + 1) = R) := by
            have := HK.out
            simp only [closF] at this
            rw [if_neg h40, if_neg h41] at this
            exact this
          clear h40 h41 hsc HK
          go_wp2_with fail
          go_round
          case rel => exact ⟨n, k + 1, by omega, by omega, by omega, by omega, by go_num, by go_num, HN⟩
          case measure => simp [intOf]; omega
    · obtain rfl : k = s.size := by omega
      have hR : R = s.size := by
        have := HK.out
        rw [drop_end] at this
        exact this.symm
      subst hR
      clear HK
      go_wp2_with fail
      go_ret
      exact ⟨rfl, rfl⟩
def SeqsPost (s : ByteArray) (w : World) (e : Ending) (w' : World) : Prop :=
  ∃ (v : Value) (Ls : List ByteArray), e = .returned v ∧ Ls.map txt = splitF (txt s) 0 [] ∧ w'.ownsRow w.heap.size 9 1 v Ls.length (strs Ls) ∧ Below w.heap.size w w' ∧ Ls.length ≤ s.size + 1
set_option maxRecDepth 20000 in
set_option maxHeartbeats 4000000 in
theorem rseqs_ok (s : ByteArray) (w : World) (hs : s.size ≤ 40) : Calls Tryz.prog 111 #[.string s] w (SeqsPost s w) := by
  obtain ⟨i0, hi0, hz0, hz01, hz02⟩ := info_parts Tryz.infoStrR
  obtain ⟨R, HR⟩ : ∃ x, Hid (splitF (txt s) 0 [] = x) := ⟨_, rfl⟩
  unfold SeqsPost
  rw [HR.out]
  go_enter Tryz.func111, Tryz.ntmps111
  go_wp2_with fail
  go_loopw [3, 4, 5, 6] (fun l' n' a' i' wr => ∃ (n : Int) (a i : Nat) (Ls : List ByteArray), i ≤ s.size ∧ a ≤ i ∧ -(i : Int) ≤ n ∧ n ≤ i ∧ n' = .int .i64 n ∧ a' = .int .i64 (a : Int) ∧ i' = .int .i64 (i : Int) ∧ Ls.length ≤ a ∧ Hid (Ls.map txt ++ splitF ((txt s).drop i) n (sub s a i) = R) ∧ wr.ownsRow w.heap.size 9 1 l' Ls.length (strs Ls) ∧ Below w.heap.size w wr) (fun _ _ _ i' _ => s.size - (intOf i').toNat)
  case atStart => exact ⟨0, 0, 0, [], by omega, by omega, by omega, by omega, rfl, rfl, rfl, by simp, by unfold Hid; rw [sub_nil]; simpa using HR.out, World.ownsRow_nil _ _ _ _, Below.refl _ _⟩
  case round =>
    obtain ⟨n, a, i, Ls, hi, hai, hn1, hn2, rfl, rfl, rfl, hll, HK, hown, hB⟩ := hrel
    clear HR
    by_cases hlt : i < s.size
    · have hd := drop_cons hlt
      rw [hd] at HK
      clear hd
      have hce := byteAt_eq hlt
      have hsn := sub_snoc hai hlt
      obtain ⟨c, HC⟩ : ∃ x, Hid (byteAt s i = x) := ⟨byteAt s i, rfl⟩
      have hsc : s[i].toNat = c := by rw [← hce]; exact HC.out
      rw [HC.out] at HK hsn
      have HSN : Hid (sub s a (i + 1) = sub s a i ++ [c]) := hsn
      clear hce HC hsn
      have HO : Hid (wr.ownsRow w.heap.size 9 1 u3 Ls.length (strs Ls)) := hown
      have HB : Hid (Below w.heap.size w wr) := hB
      by_cases h40 : c = 40
      · have t40 : ((s[i].toNat : Int) == 40) = true := by rw [hsc, h40]; rfl
        have HN : Hid (Ls.map txt ++ splitF ((txt s).drop (i + 1)) (n + 1) (sub s a (i + 1)) = R) := by
          have := HK.out
          simp only [splitF] at this
          rw [if_pos h40] at this
          unfold Hid; rw [HSN.out]; exact this
        clear h40 hsc HK hown hB
        go_wp2_with fail
        go_roundw
        case rel => exact ⟨n + 1, a, i + 1, Ls, by omega, by omega, by omega, by omega, by go_num, rfl, by go_num, hll, HN, HO.out, HB.out⟩
        case measure => simp [intOf]; omega
      · have t40 : ((s[i].toNat : Int) == 40) = false := by rw [hsc]; simp; omega
        by_cases h41 : c = 41
        · have t41 : ((s[i].toNat : Int) == 41) = true := by rw [hsc, h41]; rfl
          have HN : Hid (Ls.map txt ++ splitF ((txt s).drop (i + 1)) (n - 1) (sub s a (i + 1)) = R) := by
            have := HK.out
            simp only [splitF] at this
            rw [if_neg h40, if_pos h41] at this
            unfold Hid; rw [HSN.out]; exact this
          clear h40 h41 hsc HK hown hB
          go_wp2_with fail
          go_roundw
          case rel => exact ⟨n - 1, a, i + 1, Ls, by omega, by omega, by omega, by omega, by go_num, rfl, by go_num, hll, HN, HO.out, HB.out⟩
          case measure => simp [intOf]; omega
        · have t41 : ((s[i].toNat : Int) == 41) = false := by rw [hsc]; simp; omega
          by_cases h124 : c = 124
          · have t124 : ((s[i].toNat : Int) == 124) = true := by rw [hsc, h124]; rfl
            by_cases hn0 : n = 0
            · subst hn0
              have HN : Hid ((Ls ++ [s.extract a i]).map txt ++ splitF ((txt s).drop (i + 1)) 0 (sub s (i + 1) (i + 1)) = R) := by
                have := HK.out
                simp only [splitF] at this
                rw [if_neg h40, if_neg h41, if_pos ⟨h124, trivial⟩] at this
                unfold Hid
                rw [sub_nil, List.map_append, List.map_singleton, txt_extract, List.append_assoc]
                exact this
              have hna := hown.alloc (.cells #[.string (s.extract a i)] 9)
              have hsz := hB.size
              have HOW : Hid (∀ x, (u3 : Value).ownBlock = some x → w.heap.size ≤ x) := fun x e => (hown.lt x e).1
              clear h40 h41 h124 hsc HK hown hB
              go_wp2_with (at_builtin; refine wpList_append_fresh _ rfl _ _ 56 rfl w.heap.size 9 i0 (.string ByteArray.empty) 1 16 Tryz.underlying56 hi0 hz0 hz01 hz02 rfl (by decide) _ Ls.length (strs Ls) rfl hna ⟨wr.heap.size, 0, none⟩ 1 1 [.string (s.extract a i)] rfl rfl (cell_one_new _ _ _) (by intro u hu; simp at hu; subst hu; rfl) (by decide) (by unfold maxLen; omega) (by omega) (by simp; omega) ?_; intro g cap w3 hown3 hgr hfr; have HO3 : Hid (w3.ownsRow w.heap.size 9 1 (.slice (some ⟨g, 0, none⟩) (Ls.length + 1) cap) (Ls.length + 1) (strs Ls ++ [.string (s.extract a i)])) := hown3; have HB3 : Hid (Below w.heap.size w w3) := (HB.out.alloc (by omega) _).grown hgr (by simp; omega) (fun x e => HOW.out x e); clear hown3 hgr hfr)
              go_roundw
              case rel =>
                have ho := HO3.out
                rw [strs_snoc] at ho
                exact ⟨0, i + 1, i + 1, Ls ++ [s.extract a i], by omega, by omega, by omega, by omega, rfl, by go_num, by go_num, by simp; omega, HN, by rw [List.length_append]; exact ho, HB3.out⟩
              case measure => simp [intOf]; omega
            · have tn : ((n : Int) == 0) = false := by simp; omega
              have HN : Hid (Ls.map txt ++ splitF ((txt s).drop (i + 1)) n (sub s a (i + 1)) = R) := by
                have := HK.out
                simp only [splitF] at this
                rw [if_neg h40, if_neg h41, if_neg (fun h => hn0 h.2)] at this
                unfold Hid; rw [HSN.out]; exact this
              clear h40 h41 h124 hsc HK hown hB hn0
              go_wp2_with fail
              go_roundw
              case rel => exact ⟨n, a, i + 1, Ls, by omega, by omega, by omega, by omega, rfl, rfl, by go_num, hll, HN, HO.out, HB.out⟩
              case measure => simp [intOf]; omega
          · have t124 : ((s[i].toNat : Int) == 124) = false := by rw [hsc]; simp; omega
            have HN : Hid (Ls.map txt ++ splitF ((txt s).drop (i + 1)) n (sub s a (i + 1)) = R) := by
              have := HK.out
              simp only [splitF] at this
              rw [if_neg h40, if_neg h41, if_neg (fun h => h124 h.1)] at this
              unfold Hid; rw [HSN.out]; exact this
            clear h40 h41 h124 hsc HK hown hB
            go_wp2_with fail
            go_roundw
            case rel => exact ⟨n, a, i + 1, Ls, by omega, by omega, by omega, by omega, rfl, rfl, by go_num, hll, HN, HO.out, HB.out⟩
            case measure => simp [intOf]; omega
    · obtain rfl : i = s.size := by omega
      have HN : Hid ((Ls ++ [s.extract a s.size]).map txt = R) := by
        have := HK.out
        rw [drop_end] at this
        unfold Hid
        rw [List.map_append, List.map_singleton, txt_extract]
        exact this
      have hna := hown.alloc (.cells #[.string (s.extract a s.size)] 9)
      have hsz := hB.size
      have HB : Hid (Below w.heap.size w wr) := hB
      have HOW : Hid (∀ x, (u3 : Value).ownBlock = some x → w.heap.size ≤ x) := fun x e => (hown.lt x e).1
      clear HK hown hB
      go_wp2_with (at_builtin; refine wpList_append_fresh _ rfl _ _ 56 rfl w.heap.size 9 i0 (.string ByteArray.empty) 1 16 Tryz.underlying56 hi0 hz0 hz01 hz02 rfl (by decide) _ Ls.length (strs Ls) rfl hna ⟨wr.heap.size, 0, none⟩ 1 1 [.string (s.extract a s.size)] rfl rfl (cell_one_new _ _ _) (by intro u hu; simp at hu; subst hu; rfl) (by decide) (by unfold maxLen; omega) (by omega) (by simp; omega) ?_; intro g cap w3 hown3 hgr hfr; have HO3 : Hid (w3.ownsRow w.heap.size 9 1 (.slice (some ⟨g, 0, none⟩) (Ls.length + 1) cap) (Ls.length + 1) (strs Ls ++ [.string (s.extract a s.size)])) := hown3; have HB3 : Hid (Below w.heap.size w w3) := (HB.out.alloc (by omega) _).grown hgr (by simp; omega) (fun x e => HOW.out x e); clear hown3 hgr hfr)
      go_ret
      have ho := HO3.out
      rw [strs_snoc] at ho
      exact ⟨_, Ls ++ [s.extract a s.size], rfl, HN.out, by rw [List.length_append]; exact ho, HB3.out, by simp; omega⟩
end Go.Proofs.YtpngikmcjkjdaaaGreatDoor
namespace Go.Proofs.YtpngikmcjkjdaaaGreatDoor
open Go.RowKit
set_option linter.unusedVariables false
set_option linter.unusedSimpArgs false
theorem sub_get {s : ByteArray} {a b j : Nat} (h : a + j < b) (hb : b ≤ s.size) : (sub s a b)[j]? = some (byteAt s (a + j)) := by
  unfold sub
  rw [List.getElem?_drop, List.getElem?_take_of_lt h, txt_get (by omega)]
theorem drop_sub {s : ByteArray} {a b : Nat} (h : a ≤ b) (hb : b ≤ s.size) : (txt s).drop a = sub s a b ++ (txt s).drop b := by
  have h1 := sub_app (s := s) h hb
  have h2 : sub s b s.size = (txt s).drop b := by unfold sub; rw [List.take_of_length_le (by rw [txt_len]; omega)]
  have h3 : sub s a s.size = (txt s).drop a := by unfold sub; rw [List.take_of_length_le (by rw [txt_len]; omega)]
  rw [← h2, ← h3, h1]
theorem scan_byte {s : ByteArray} {i : Nat} {l : List Nat} {z : Nat} (hsub : sub s i (i + (l.length + 1)) = l ++ [z]) (hle : i + (l.length + 1) ≤ s.size) (hz : z ∉ l) (j : Nat) (hj : i ≤ j) (hj2 : j ≤ i + l.length) : (byteAt s j = z ↔ j = i + l.length) := by
  have h1 := sub_get (s := s) (a := i) (b := i + (l.length + 1)) (j := j - i) (by omega) hle
  rw [hsub, show i + (j - i) = j by omega] at h1
  by_cases e : j - i < l.length
  · rw [List.getElem?_append_left e] at h1
    have hm : byteAt s j ∈ l := List.mem_of_getElem? h1
    constructor
    · intro h; rw [h] at hm; exact absurd hm hz
    · intro h; omega
  · rw [List.getElem?_append_right (by omega), show j - i - l.length = 0 by omega] at h1
    simp at h1
    exact ⟨fun _ => by omega, fun _ => h1.symm⟩
theorem first_byte {s : ByteArray} {i c n : Nat} {l : List Nat} (hsub : sub s i (i + n) = c :: l) (hle : i + n ≤ s.size) (hn : 0 < n) : byteAt s i = c := by
  have h1 := sub_get (s := s) (a := i) (b := i + n) (j := 0) (by omega) hle
  rw [hsub] at h1
  simpa using h1.symm
set_option maxRecDepth 20000 in
set_option maxHeartbeats 2000000 in
theorem ratom_scan (s : ByteArray) (i : Nat) (l : List Nat) (w : World) (hs : s.size ≤ 40) (hsub : sub s i (i + (l.length + 2)) = 91 :: l ++ [93]) (hle : i + (l.length + 2) ≤ s.size) (hz : 93 ∉ l) :
    Calls Tryz.prog 147 #[.string s, .int .i64 (i : Int)] w fun e w' => e = .returned (.int .i64 ((i + (l.length + 2) : Nat) : Int)) ∧ w = w' := by
  have hb := scan_byte (l := 91 :: l) (z := 93) (i := i) (s := s) hsub hle (by simp [hz])
  have h0 : byteAt s i = 91 := first_byte hsub hle (by omega)
  simp only [List.length_cons] at hb
  have hlt : i < s.size := by omega
  have hce := byteAt_eq hlt
  rw [h0] at hce
  have t40 : ((s[i].toNat : Int) == 40) = false := by rw [← hce]; rfl
  have t91 : ((s[i].toNat : Int) == 91) = true := by rw [← hce]; rfl
  have HBB : Hid (∀ (j : Nat), i ≤ j → j ≤ i + (l.length + 1) → (byteAt s j = 93 ↔ j = i + (l.length + 1))) := hb
  clear hb hsub hz h0 hce
  go_enter Tryz.func147, Tryz.ntmps147
  go_wp2_with fail
  go_loop [1] (fun j' => ∃ j : Nat, j' = .int .i64 (j : Int) ∧ i ≤ j ∧ j ≤ i + (l.length + 1)) (fun j' => 100 - (intOf j').toNat)
  case atStart => exact ⟨i, rfl, Nat.le_refl _, by omega⟩
  case round =>
    obtain ⟨j, rfl, hj1, hj2⟩ := hrel
    clear t40 t91
    have hjl : j < s.size := by omega
    have hje := byteAt_eq hjl
    have hbj := HBB.out j hj1 hj2
    rw [hje] at hbj
    by_cases e : j = i + (l.length + 1)
    · have t93 : ((s[j].toNat : Int) != 93) = false := by rw [hbj.2 e]; rfl
      have HE : Hid (j = i + (l.length + 1)) := e
      clear hbj hje e
      go_wp2_with fail
      go_ret
      exact ⟨ret_int (by rw [HE.out]; omega), rfl⟩
    · have t93 : ((s[j].toNat : Int) != 93) = true := by
        have : s[j].toNat ≠ 93 := fun h => e (hbj.1 h)
        simp only [bne_iff_ne, ne_eq]; omega
      clear hbj hje
      go_wp2_with fail
      go_round
      case rel => exact ⟨j + 1, by go_num, by omega, by omega⟩
      case measure => simp [intOf]; omega
set_option maxRecDepth 20000 in
set_option maxHeartbeats 2000000 in
theorem ratom_one (s : ByteArray) (i : Nat) (w : World) (hs : s.size ≤ 40) (hlt : i < s.size) (h1 : byteAt s i ≠ 40) (h2 : byteAt s i ≠ 91) :
    Calls Tryz.prog 147 #[.string s, .int .i64 (i : Int)] w fun e w' => e = .returned (.int .i64 ((i + 1 : Nat) : Int)) ∧ w = w' := by
  have hce := byteAt_eq hlt
  rw [hce] at h1 h2
  have t40 : ((s[i].toNat : Int) == 40) = false := by simp only [beq_eq_false_iff_ne, ne_eq]; omega
  have t91 : ((s[i].toNat : Int) == 91) = false := by simp only [beq_eq_false_iff_ne, ne_eq]; omega
  clear h1 h2 hce
  go_enter Tryz.func147, Tryz.ntmps147
  go_wp2_with fail
  go_ret
  exact ⟨ret_int (by omega), rfl⟩
set_option maxRecDepth 20000 in
set_option maxHeartbeats 2000000 in
theorem ratom_par (s : ByteArray) (i r : Nat) (w : World) (hs : s.size ≤ 40) (hlt : i < s.size) (h1 : byteAt s i = 40) (hr : closF ((txt s).drop i) 0 i = r) (hr2 : r ≤ 40) :
    Calls Tryz.prog 147 #[.string s, .int .i64 (i : Int)] w fun e w' => e = .returned (.int .i64 ((r + 1 : Nat) : Int)) ∧ w = w' := by
  have hce := byteAt_eq hlt
  rw [h1] at hce
  have t40 : ((s[i].toNat : Int) == 40) = true := by rw [← hce]; rfl
  have HC := rclosing_ok s i w hs (by omega)
  rw [hr] at HC
  clear h1 hce hr
  go_enter Tryz.func147, Tryz.ntmps147
  go_wp2_with (go_at_call 174; refine HC.mono ?_; rintro e w' ⟨rfl, rfl⟩)
  go_ret
  exact ⟨ret_int (by omega), rfl⟩
theorem ratom_ok (s : ByteArray) (i k : Nat) (la : List Nat) (q : Pat) (w : World) (hs : s.size ≤ 40) (h : AtomT k la q) (hsub : sub s i (i + la.length) = la) (hle : i + la.length ≤ s.size) :
    Calls Tryz.prog 147 #[.string s, .int .i64 (i : Int)] w fun e w' => e = .returned (.int .i64 ((i + la.length : Nat) : Int)) ∧ w = w' := by
  have h0 : ∀ {la : List Nat} {q : Pat}, Atom0T la q → sub s i (i + la.length) = la → i + la.length ≤ s.size → Calls Tryz.prog 147 #[.string s, .int .i64 (i : Int)] w fun e w' => e = .returned (.int .i64 ((i + la.length : Nat) : Int)) ∧ w = w' := by
    intro la q h hsub hle
    rcases h with ⟨c, hc, rfl, _⟩ | ⟨rfl, _⟩ | ⟨ps, _, h1, ⟨rfl, _⟩ | ⟨rfl, _⟩⟩
    · have hb := first_byte hsub hle (by simp)
      exact ratom_one s i w hs (by simp at hle; omega) (by omega) (by omega)
    · have hb := first_byte hsub hle (by simp)
      exact ratom_one s i w hs (by simp at hle; omega) (by omega) (by omega)
    · have hz : 93 ∉ ps.flatMap Prt.text := fun hm => by have := prts_plain h1 93 hm; omega
      have hl : (91 :: ps.flatMap Prt.text ++ [93] : List Nat).length = (ps.flatMap Prt.text).length + 2 := by simp
      rw [hl] at hsub hle ⊢
      exact ratom_scan s i (ps.flatMap Prt.text) w hs hsub hle hz
    · have hz : 93 ∉ 94 :: ps.flatMap Prt.text := fun hm => by
        rcases List.mem_cons.1 hm with h | h
        · omega
        · have := prts_plain h1 93 h; omega
      have hl : (91 :: 94 :: ps.flatMap Prt.text ++ [93] : List Nat).length = (94 :: ps.flatMap Prt.text).length + 2 := by simp
      rw [hl] at hsub hle ⊢
      exact ratom_scan s i (94 :: ps.flatMap Prt.text) w hs hsub hle hz
  cases k with
  | zero => exact h0 h hsub hle
  | succ k =>
    rcases h with h | ⟨l', rfl, h⟩
    · exact h0 h hsub hle
    · have hlen : (40 :: l' ++ [41]).length = l'.length + 2 := by simp
      have hb : byteAt s i = 40 := first_byte (l := l' ++ [41]) hsub hle (by omega)
      have hr : closF ((txt s).drop i) 0 i = i + 1 + l'.length := by
        rw [drop_sub (show i ≤ i + (40 :: l' ++ [41]).length by omega) hle, hsub]
        exact clos_par (atomT_flat k) h i _
      have := ratom_par s i _ w hs (by omega) hb hr (by omega)
      rw [hlen]
      rw [show i + 1 + l'.length + 1 = i + (l'.length + 2) by omega] at this
      exact this
set_option maxRecDepth 20000 in
set_option maxHeartbeats 2000000 in
theorem rmarked_none (s : ByteArray) (i : Nat) (w : World) (hs : s.size ≤ 40) (hi : i ≤ s.size) (h : i < s.size → byteAt s i ≠ 42 ∧ byteAt s i ≠ 43 ∧ byteAt s i ≠ 63 ∧ byteAt s i ≠ 123) :
    Calls Tryz.prog 148 #[.string s, .int .i64 (i : Int)] w fun e w' => e = .returned (.int .i64 (i : Int)) ∧ w = w' := by
  by_cases hlt : i < s.size
  · have hce := byteAt_eq hlt
    have h' := h hlt
    rw [hce] at h'
    have hn : ¬ (s.size : Int) ≤ (i : Int) := by omega
    have t42 : ((s[i].toNat : Int) == 42) = false := by simp only [beq_eq_false_iff_ne, ne_eq]; omega
    have t43 : ((s[i].toNat : Int) == 43) = false := by simp only [beq_eq_false_iff_ne, ne_eq]; omega
    have t63 : ((s[i].toNat : Int) == 63) = false := by simp only [beq_eq_false_iff_ne, ne_eq]; omega
    have t123 : ((s[i].toNat : Int) == 123) = false := by simp only [beq_eq_false_iff_ne, ne_eq]; omega
    clear h h' hce
    go_enter Tryz.func148, Tryz.ntmps148
    go_wp2_with fail
    go_ret
    exact ⟨rfl, rfl⟩
  · have hn : (s.size : Int) ≤ (i : Int) := by omega
    clear h
    go_enter Tryz.func148, Tryz.ntmps148
    go_wp2_with fail
    go_ret
    exact ⟨rfl, rfl⟩
set_option maxRecDepth 20000 in
set_option maxHeartbeats 2000000 in
theorem rmarked_one (s : ByteArray) (i : Nat) (w : World) (hs : s.size ≤ 40) (hlt : i < s.size) (h : byteAt s i = 42 ∨ byteAt s i = 43 ∨ byteAt s i = 63) :
    Calls Tryz.prog 148 #[.string s, .int .i64 (i : Int)] w fun e w' => e = .returned (.int .i64 ((i + 1 : Nat) : Int)) ∧ w = w' := by
  have hce := byteAt_eq hlt
  rw [hce] at h
  have hn : ¬ (s.size : Int) ≤ (i : Int) := by omega
  rcases h with h | h | h
  · have t42 : ((s[i].toNat : Int) == 42) = true := by rw [h]; rfl
    clear h hce
    go_enter Tryz.func148, Tryz.ntmps148
    go_wp2_with fail
    go_ret
    exact ⟨ret_int (by omega), rfl⟩
  · have t42 : ((s[i].toNat : Int) == 42) = false := by rw [h]; rfl
    have t43 : ((s[i].toNat : Int) == 43) = true := by rw [h]; rfl
    clear h hce
    go_enter Tryz.func148, Tryz.ntmps148
    go_wp2_with fail
    go_ret
    exact ⟨ret_int (by omega), rfl⟩
  · have t42 : ((s[i].toNat : Int) == 42) = false := by rw [h]; rfl
    have t43 : ((s[i].toNat : Int) == 43) = false := by rw [h]; rfl
    have t63 : ((s[i].toNat : Int) == 63) = true := by rw [h]; rfl
    clear h hce
    go_enter Tryz.func148, Tryz.ntmps148
    go_wp2_with fail
    go_ret
    exact ⟨ret_int (by omega), rfl⟩
set_option maxRecDepth 20000 in
set_option maxHeartbeats 2000000 in
theorem rmarked_scan (s : ByteArray) (i : Nat) (l : List Nat) (w : World) (hs : s.size ≤ 40) (hsub : sub s i (i + (l.length + 2)) = 123 :: l ++ [125]) (hle : i + (l.length + 2) ≤ s.size) (hz : 125 ∉ l) :
    Calls Tryz.prog 148 #[.string s, .int .i64 (i : Int)] w fun e w' => e = .returned (.int .i64 ((i + (l.length + 2) : Nat) : Int)) ∧ w = w' := by
  have hb := scan_byte (l := 123 :: l) (z := 125) (i := i) (s := s) hsub hle (by simp [hz])
  have h0 : byteAt s i = 123 := first_byte hsub hle (by omega)
  simp only [List.length_cons] at hb
  have hlt : i < s.size := by omega
  have hce := byteAt_eq hlt
  rw [h0] at hce
  have hn : ¬ (s.size : Int) ≤ (i : Int) := by omega
  have t42 : ((s[i].toNat : Int) == 42) = false := by rw [← hce]; rfl
  have t43 : ((s[i].toNat : Int) == 43) = false := by rw [← hce]; rfl
  have t63 : ((s[i].toNat : Int) == 63) = false := by rw [← hce]; rfl
  have t123 : ((s[i].toNat : Int) == 123) = true := by rw [← hce]; rfl
  have HBB : Hid (∀ (j : Nat), i ≤ j → j ≤ i + (l.length + 1) → (byteAt s j = 125 ↔ j = i + (l.length + 1))) := hb
  clear hb hsub hz h0 hce
  go_enter Tryz.func148, Tryz.ntmps148
  go_wp2_with fail
  go_loop [1] (fun j' => ∃ j : Nat, j' = .int .i64 (j : Int) ∧ i ≤ j ∧ j ≤ i + (l.length + 1)) (fun j' => 100 - (intOf j').toNat)
  case atStart => exact ⟨i, rfl, Nat.le_refl _, by omega⟩
  case round =>
    obtain ⟨j, rfl, hj1, hj2⟩ := hrel
    clear t42 t43 t63 t123 hn
    have hjl : j < s.size := by omega
    have hje := byteAt_eq hjl
    have hbj := HBB.out j hj1 hj2
    rw [hje] at hbj
    by_cases e : j = i + (l.length + 1)
    · have t93 : ((s[j].toNat : Int) != 125) = false := by rw [hbj.2 e]; rfl
      have HE : Hid (j = i + (l.length + 1)) := e
      clear hbj hje e
      go_wp2_with fail
      go_ret
      exact ⟨ret_int (by rw [HE.out]; omega), rfl⟩
    · have t93 : ((s[j].toNat : Int) != 125) = true := by
        have : s[j].toNat ≠ 125 := fun h => e (hbj.1 h)
        simp only [bne_iff_ne, ne_eq]; omega
      clear hbj hje
      go_wp2_with fail
      go_round
      case rel => exact ⟨j + 1, by go_num, by omega, by omega⟩
      case measure => simp [intOf]; omega
theorem rmarked_ok (s : ByteArray) (i : Nat) (m : Mk) (w : World) (hs : s.size ≤ 40) (hm : m.ok) (hsub : sub s i (i + m.text.length) = m.text) (hle : i + m.text.length ≤ s.size) (hno : m = .none → i < s.size → byteAt s i ≠ 42 ∧ byteAt s i ≠ 43 ∧ byteAt s i ≠ 63 ∧ byteAt s i ≠ 123) :
    Calls Tryz.prog 148 #[.string s, .int .i64 (i : Int)] w fun e w' => e = .returned (.int .i64 ((i + m.text.length : Nat) : Int)) ∧ w = w' := by
  cases m with
  | none => exact rmarked_none s i w hs (by have : i + 0 ≤ s.size := hle; omega) (hno rfl)
  | star => exact rmarked_one s i w hs (by simp [Mk.text] at hle; omega) (.inl (first_byte hsub hle (by simp [Mk.text])))
  | plus => exact rmarked_one s i w hs (by simp [Mk.text] at hle; omega) (.inr (.inl (first_byte hsub hle (by simp [Mk.text]))))
  | opt => exact rmarked_one s i w hs (by simp [Mk.text] at hle; omega) (.inr (.inr (first_byte hsub hle (by simp [Mk.text]))))
  | just n => exact rmarked_scan s i [48 + n] w hs hsub hle (by have : n ≤ 9 := hm; simp; omega)
  | more n => exact rmarked_scan s i [48 + n, 44] w hs hsub hle (by have : n ≤ 9 := hm; simp; omega)
  | span n m => exact rmarked_scan s i [48 + n, 44, 48 + m] w hs hsub hle (by have : n ≤ m ∧ m ≤ 9 := hm; simp; omega)
end Go.Proofs.YtpngikmcjkjdaaaGreatDoor
namespace Go.Proofs.YtpngikmcjkjdaaaGreatDoor
open Go.RowKit
set_option linter.unusedVariables false
set_option linter.unusedSimpArgs false
theorem toList_txt {m : ByteArray} {l : List Nat} (h : txt m = l) : m.toList = l.map UInt8.ofNat := by
  rw [ByteArray.toList_eq, ← h]
  unfold txt
  rw [List.map_map]
  have : (UInt8.ofNat ∘ UInt8.toNat) = id := by funext x; simp
  rw [this, List.map_id]
theorem byte_txt {m : ByteArray} {l : List Nat} (h : txt m = l) {j : Nat} (hj : j < l.length) : j < m.size ∧ byteAt m j = l.getD j 0 := by
  have hs : m.size = l.length := by rw [← txt_len, h]
  have := txt_get (s := m) (a := j) (by omega)
  rw [h] at this
  exact ⟨by omega, by rw [List.getD_eq_getElem?_getD, this]; rfl⟩
set_option maxRecDepth 20000 in
set_option maxHeartbeats 2000000 in
theorem rtimes_ok (mk : Mk) (m : ByteArray) (w : World) (hm : mk.ok) (h : txt m = mk.text) : Calls Tryz.prog 149 #[.string m] w fun e w' => e = .returned (.tuple #[.int .i64 (mk.lo : Int), .int .i64 mk.hi]) ∧ Below w.heap.size w w' := by
  have hl := toList_txt h
  cases mk with
  | none =>
    simp only [Mk.text, List.map] at hl
    have h0 : m.toList.isEmpty = true := by rw [hl]; rfl
    clear hl h hm
    go_enter Tryz.func149, Tryz.ntmps149
    go_wp2_with fail
    go_ret2
    exact ⟨rfl, Below.refl _ _⟩
  | star =>
    simp only [Mk.text, List.map] at hl
    have h0 : m.toList.isEmpty = false := by rw [hl]; rfl
    have h42 : (m.toList == [42]) = true := by rw [hl]; rfl
    clear hl h hm
    go_enter Tryz.func149, Tryz.ntmps149
    go_wp2_with fail
    go_ret2
    exact ⟨rfl, Below.refl _ _⟩
  | plus =>
    simp only [Mk.text, List.map] at hl
    have h0 : m.toList.isEmpty = false := by rw [hl]; rfl
    have h42 : (m.toList == [42]) = false := by rw [hl]; rfl
    have h43 : (m.toList == [43]) = true := by rw [hl]; rfl
    clear hl h hm
    go_enter Tryz.func149, Tryz.ntmps149
    go_wp2_with fail
    go_ret2
    exact ⟨rfl, Below.refl _ _⟩
  | opt =>
    simp only [Mk.text, List.map] at hl
    have h0 : m.toList.isEmpty = false := by rw [hl]; rfl
    have h42 : (m.toList == [42]) = false := by rw [hl]; rfl
    have h43 : (m.toList == [43]) = false := by rw [hl]; rfl
    have h63 : (m.toList == [63]) = true := by rw [hl]; rfl
    clear hl h hm
    go_enter Tryz.func149, Tryz.ntmps149
    go_wp2_with fail
    go_ret2
    exact ⟨rfl, Below.refl _ _⟩
  | just n =>
    obtain ⟨hl1, hb1⟩ := byte_txt h (j := 1) (by simp [Mk.text])
    have hsz : m.size = 3 := by rw [← txt_len, h]; rfl
    have hm1 : m[1].toNat = 48 + n := by rw [← byteAt_eq hl1, hb1]; rfl
    simp only [Mk.text, List.map] at hl
    have h0 : m.toList.isEmpty = false := by rw [hl]; rfl
    have h42 : (m.toList == [42]) = false := by rw [hl]; rfl
    have h43 : (m.toList == [43]) = false := by rw [hl]; rfl
    have h63 : (m.toList == [63]) = false := by rw [hl]; rfl
    have hn9 : n ≤ 9 := hm
    have HM1 : Hid (m[1].toNat = 48 + n) := hm1
    have hw1 : ((m[1].toNat : Int) - 48) = (n : Int) := by rw [hm1]; omega
    have hg1 : (48 : Int) ≤ (m[1].toNat : Int) := by rw [hm1]; omega
    have hg2 : (m[1].toNat : Int) ≤ 57 := by rw [hm1]; omega
    clear hl h hb1 hm1
    go_enter Tryz.func149, Tryz.ntmps149
    go_wp2_with fail
    go_ret2
    exact ⟨rfl, Below.refl _ _⟩
  | more n =>
    obtain ⟨hl1, hb1⟩ := byte_txt h (j := 1) (by simp [Mk.text])
    have hsz : m.size = 4 := by rw [← txt_len, h]; rfl
    have hm1 : m[1].toNat = 48 + n := by rw [← byteAt_eq hl1, hb1]; rfl
    simp only [Mk.text, List.map] at hl
    have h0 : m.toList.isEmpty = false := by rw [hl]; rfl
    have h42 : (m.toList == [42]) = false := by rw [hl]; rfl
    have h43 : (m.toList == [43]) = false := by rw [hl]; rfl
    have h63 : (m.toList == [63]) = false := by rw [hl]; rfl
    have hn9 : n ≤ 9 := hm
    have HM1 : Hid (m[1].toNat = 48 + n) := hm1
    have hw1 : ((m[1].toNat : Int) - 48) = (n : Int) := by rw [hm1]; omega
    have hg1 : (48 : Int) ≤ (m[1].toNat : Int) := by rw [hm1]; omega
    have hg2 : (m[1].toNat : Int) ≤ 57 := by rw [hm1]; omega
    clear hl h hb1 hm1
    go_enter Tryz.func149, Tryz.ntmps149
    go_wp2_with fail
    go_ret2
    exact ⟨rfl, Below.refl _ _⟩
  | span n k =>
    obtain ⟨hl1, hb1⟩ := byte_txt h (j := 1) (by simp [Mk.text])
    have hsz : m.size = 5 := by rw [← txt_len, h]; rfl
    have hm1 : m[1].toNat = 48 + n := by rw [← byteAt_eq hl1, hb1]; rfl
    simp only [Mk.text, List.map] at hl
    have h0 : m.toList.isEmpty = false := by rw [hl]; rfl
    have h42 : (m.toList == [42]) = false := by rw [hl]; rfl
    have h43 : (m.toList == [43]) = false := by rw [hl]; rfl
    have h63 : (m.toList == [63]) = false := by rw [hl]; rfl
    have hn9 : n ≤ k ∧ k ≤ 9 := hm
    obtain ⟨hl3, hb3⟩ := byte_txt h (j := 3) (by simp [Mk.text])
    have hm3 : m[3].toNat = 48 + k := by rw [← byteAt_eq hl3, hb3]; rfl
    have hw3 : ((m[3].toNat : Int) - 48) = (k : Int) := by rw [hm3]; omega
    have hw4 : IntKind.u8.wrap ((m[3].toNat : Int) - 48) = (k : Int) := by rw [hw3, IntKind.wrap_u8]; omega
    have hw5 : IntKind.i64.wrap (k : Int) = (k : Int) := by rw [IntKind.wrap_i64]; omega
    have hg3 : (48 : Int) ≤ (m[3].toNat : Int) := by rw [hm3]; omega
    have hg4 : (m[3].toNat : Int) ≤ 57 := by rw [hm3]; omega
    clear hb3 hm3
    have HM1 : Hid (m[1].toNat = 48 + n) := hm1
    have hw1 : ((m[1].toNat : Int) - 48) = (n : Int) := by rw [hm1]; omega
    have hg1 : (48 : Int) ≤ (m[1].toNat : Int) := by rw [hm1]; omega
    have hg2 : (m[1].toNat : Int) ≤ 57 := by rw [hm1]; omega
    clear hl h hb1 hm1
    go_enter Tryz.func149, Tryz.ntmps149
    go_wp2_with fail
    go_quiet (fail)
    go_wp2_with fail
    go_ret2
    exact ⟨rfl, below_drewN (Below.refl _ _) nq⟩
end Go.Proofs.YtpngikmcjkjdaaaGreatDoor
namespace Go.Proofs.YtpngikmcjkjdaaaGreatDoor
open Go.RowKit
set_option linter.unusedVariables false
set_option linter.unusedSimpArgs false
def pieC (l : List (ByteArray × ByteArray)) : List Value := l.flatMap fun x => [.string x.1, .string x.2]
theorem pieC_snoc (l : List (ByteArray × ByteArray)) (x y : ByteArray) : pieC l ++ [.string x, .string y] = pieC (l ++ [(x, y)]) := by simp [pieC]
theorem pieC_at (l : List (ByteArray × ByteArray)) (k : Nat) (x : ByteArray × ByteArray) (h : l[k]? = some x) : (pieC l)[k * 2]? = some (.string x.1) ∧ (pieC l)[k * 2 + 1]? = some (.string x.2) := by
  induction l generalizing k with
  | nil => simp at h
  | cons q ps ih =>
    cases k with
    | zero => simp at h; subst h; simp [pieC]
    | succ k =>
      have := ih k (by simpa using h)
      rw [show (k + 1) * 2 = k * 2 + 1 + 1 by omega]
      simpa [pieC] using this
theorem Tryz.infoPc : (Tryz.prog.info? 143).map (fun i => (i.zero, i.size, i.bytes)) = some (some (.agg #[.string ByteArray.empty, .string ByteArray.empty]), 2, 32) := by kernel_rfl
theorem sub_mid {s : ByteArray} {pre l post : List Nat} (h : txt s = pre ++ l ++ post) : sub s pre.length (pre.length + l.length) = l ∧ pre.length + l.length ≤ s.size := by
  have hs : s.size = pre.length + l.length + post.length := by rw [← txt_len, h]; simp only [List.length_append]
  refine ⟨?_, by omega⟩
  unfold sub
  rw [h, List.take_append_of_le_length (by simp), List.take_of_length_le (by simp), List.drop_append_of_le_length (by omega), List.drop_of_length_le (Nat.le_refl _), List.nil_append]
def PiePost (its : List Itm) (w : World) (e : Ending) (w' : World) : Prop :=
  ∃ (v : Value) (Ps : List (ByteArray × ByteArray)), e = .returned v ∧ Ps.map (fun x => (txt x.1, txt x.2)) = its.map (fun i => (i.la, i.m.text)) ∧ w'.ownsRow w.heap.size 143 2 v Ps.length (pieC Ps) ∧ Below w.heap.size w w'
theorem item_at {k : Nat} {s : ByteArray} {its : List Itm} (hits : ∀ i ∈ its, AtomT k i.la i.q ∧ i.m.ok) (ht : txt s = its.flatMap Itm.text) {j : Nat} (hj : j < its.length) :
    ∃ it, its[j]? = some it ∧ AtomT k it.la it.q ∧ it.m.ok ∧ sub s ((its.take j).flatMap Itm.text).length (((its.take j).flatMap Itm.text).length + it.la.length) = it.la ∧ sub s (((its.take j).flatMap Itm.text).length + it.la.length) (((its.take j).flatMap Itm.text).length + it.la.length + it.m.text.length) = it.m.text ∧
      ((its.take j).flatMap Itm.text).length + it.la.length + it.m.text.length ≤ s.size ∧ ((its.take (j + 1)).flatMap Itm.text).length = ((its.take j).flatMap Itm.text).length + it.la.length + it.m.text.length ∧ 1 ≤ it.la.length ∧
      (it.m = .none → ((its.take j).flatMap Itm.text).length + it.la.length < s.size → byteAt s (((its.take j).flatMap Itm.text).length + it.la.length) ≠ 42 ∧ byteAt s (((its.take j).flatMap Itm.text).length + it.la.length) ≠ 43 ∧ byteAt s (((its.take j).flatMap Itm.text).length + it.la.length) ≠ 63 ∧ byteAt s (((its.take j).flatMap Itm.text).length + it.la.length) ≠ 123) := by
  have hm : its[j] ∈ its := List.getElem_mem hj
  obtain ⟨hA, hok⟩ := hits _ hm
  have hsplit : its = its.take j ++ its[j] :: its.drop (j + 1) := by rw [List.getElem_cons_drop, List.take_append_drop]
  have htxt : txt s = (its.take j).flatMap Itm.text ++ its[j].la ++ (its[j].m.text ++ (its.drop (j + 1)).flatMap Itm.text) := by
    rw [ht]
    conv => lhs; rw [hsplit]
    rw [List.flatMap_append, List.flatMap_cons]
    simp [Itm.text]
  obtain ⟨h1, h2⟩ := sub_mid htxt
  obtain ⟨h3, h4⟩ := sub_mid (s := s) (pre := (its.take j).flatMap Itm.text ++ its[j].la) (l := its[j].m.text) (post := (its.drop (j + 1)).flatMap Itm.text) (by rw [htxt]; simp)
  rw [List.length_append] at h3 h4
  obtain ⟨c, l', hc, _⟩ := hA.head
  refine ⟨its[j], by rw [List.getElem?_eq_getElem hj], hA, hok, h1, h3, h4, ?_, by rw [hc]; simp, fun hno hlt => ?_⟩
  · rw [List.take_succ_eq_append_getElem hj, List.flatMap_append, List.length_append]
    simp only [List.flatMap_cons, List.flatMap_nil, List.append_nil, Itm.text, List.length_append]; omega
  · rw [hno] at htxt
    simp only [Mk.text, List.nil_append] at htxt
    have hs : s.size = (txt s).length := (txt_len s).symm
    rw [htxt] at hs
    simp only [List.length_append] at hs
    cases hd : its.drop (j + 1) with
    | nil => rw [hd] at hs; simp only [List.flatMap_nil, List.length_nil] at hs; omega
    | cons y ys =>
      have hy : y ∈ its := List.mem_of_mem_drop (by rw [hd]; simp)
      obtain ⟨hAy, _⟩ := hits y hy
      obtain ⟨c', l'', hc', n1, n2, n3, n4⟩ := hAy.head
      rw [hd, List.flatMap_cons] at htxt
      have hb : byteAt s (((its.take j).flatMap Itm.text).length + its[j].la.length) = c' := by
        have hx := txt_get (s := s) (a := ((its.take j).flatMap Itm.text).length + its[j].la.length) hlt
        rw [htxt, List.getElem?_append_right (by rw [List.length_append]; omega), List.length_append, Nat.sub_self, Itm.text, hc'] at hx
        simp only [List.cons_append, List.getElem?_cons_zero, Option.some.injEq] at hx
        exact hx.symm
      rw [hb]
      exact ⟨n1, n2, n3, n4⟩
set_option maxRecDepth 20000 in
set_option maxHeartbeats 4000000 in
theorem rpieces_ok (k : Nat) (s : ByteArray) (its : List Itm) (w : World) (hs : s.size ≤ 40) (hits : ∀ i ∈ its, AtomT k i.la i.q ∧ i.m.ok) (ht : txt s = its.flatMap Itm.text) :
    Calls Tryz.prog 112 #[.string s] w (PiePost its w) := by
  obtain ⟨i0, hi0, hz0, hz01, hz02⟩ := info_parts Tryz.infoPc
  have HIT := fun j (hj : j < its.length) => item_at hits ht hj
  have HEND : Hid ((its.flatMap Itm.text).length = s.size) := by unfold Hid; rw [← ht, txt_len]
  clear hits ht
  go_enter Tryz.func112, Tryz.ntmps112
  go_wp2_with fail
  go_loopw [3, 4, 5, 6] (fun l' i' _ _ wr => ∃ (j i : Nat) (Ps : List (ByteArray × ByteArray)), j ≤ its.length ∧ i' = .int .i64 (i : Int) ∧ Hid (((its.take j).flatMap Itm.text).length = i) ∧ Hid (Ps.map (fun x => (txt x.1, txt x.2)) = (its.take j).map (fun i => (i.la, i.m.text))) ∧ j ≤ i ∧ Ps.length = j ∧ wr.ownsRow w.heap.size 143 2 l' Ps.length (pieC Ps) ∧ Below w.heap.size w wr) (fun _ i' _ _ _ => 100 - (intOf i').toNat)
  case atStart => exact ⟨0, 0, [], by omega, rfl, by simp [Hid], by simp [Hid], by omega, rfl, World.ownsRow_nil _ _ _ _, Below.refl _ _⟩
  case round =>
    obtain ⟨j, i, Ps, hj, rfl, HI, HPS, hji, hpl, hown, hB⟩ := hrel
    by_cases hlt : j < its.length
    · obtain ⟨it, hit, hA, hok, h1, h2, h3, h4, h5, h6⟩ := HIT j hlt
      rw [HI.out] at h1 h2 h3 h4 h6
      have hil : (i : Int) < (s.size : Int) := by omega
      have HC1 := ratom_ok s i k it.la it.q wr hs hA h1 (by omega)
      have HC2 := rmarked_ok s (i + it.la.length) it.m wr hs hok h2 h3 h6
      obtain ⟨na, HNA⟩ : ∃ x, Hid (i + it.la.length = x) := ⟨_, rfl⟩
      rw [HNA.out] at HC1 HC2 h1 h2 h3 h4
      obtain ⟨nb, HNB⟩ : ∃ x, Hid (na + it.m.text.length = x) := ⟨_, rfl⟩
      rw [HNB.out] at HC2 h2 h3 h4
      have hna : i < na := by rw [← HNA.out]; omega
      have hnb : na ≤ nb := by rw [← HNB.out]; omega
      have x1 := txt_extract s i na
      have x2 := txt_extract s na nb
      rw [h1] at x1
      rw [h2] at x2
      have HN : Hid ((Ps ++ [(s.extract i na, s.extract na nb)]).map (fun x => (txt x.1, txt x.2)) = (its.take (j + 1)).map (fun i => (i.la, i.m.text))) := by
        unfold Hid
        rw [List.map_append, HPS.out, List.take_add_one, List.map_append, hit]
        simp [x1, x2]
      have H4 : Hid (((its.take (j + 1)).flatMap Itm.text).length = nb) := h4
      have hq1 : na ≤ s.size := by omega
      have hi1 : (i : Int) ≤ (na : Int) := by omega
      have hi2 : (na : Int) ≤ (nb : Int) := by omega
      have hi3 : (nb : Int) ≤ (s.size : Int) := by omega
      have hsz := hB.size
      clear hit hA hok h1 h2 h4 h6 x1 x2 HPS HI HNA HNB
      obtain ⟨e1, HE1⟩ : ∃ x, Hid (s.extract i na = x) := ⟨_, rfl⟩
      obtain ⟨e2, HE2⟩ : ∃ x, Hid (s.extract na nb = x) := ⟨_, rfl⟩
      have hnaa := hown.alloc (.cells #[.string (s.extract i na), .string (s.extract na nb)] 143)
      have HB : Hid (Below w.heap.size w wr) := hB
      have HOW : Hid (∀ x, (u3 : Value).ownBlock = some x → w.heap.size ≤ x) := fun x e => (hown.lt x e).1
      clear hown hB
      go_wp2_with (first | (go_at_call 147; refine HC1.mono ?_; rintro e w' ⟨rfl, rfl⟩) | (go_at_call 148; refine HC2.mono ?_; rintro e w' ⟨rfl, rfl⟩))
      go_region_law
        ((refine step_append_lies _ (by rfl) _ _ _ (by rfl) w.heap.size 143 i0 (.agg #[.string ByteArray.empty, .string ByteArray.empty]) 2 32 Tryz.underlying139 hi0 hz0 hz01 hz02 rfl (by decide) u3 Ps.length (pieC Ps) (by rfl) hnaa ⟨wr.heap.size, 0, none⟩ 1 1 [.string (s.extract i na), .string (s.extract na nb)] (by rfl) (by rfl) (cells_new _ _ _) (by intro u hu; simp at hu; rcases hu with rfl | rfl <;> rfl) (by decide) (by unfold maxLen; omega) (by omega) (by simp; omega) (wr.heap.size + 1) (by simp) ?_; intro g' cap' w6 hown' hgr' hfr' hlt2; have HO3 : Hid (w6.ownsRow w.heap.size 143 2 (.slice (some ⟨g', 0, none⟩) (Ps.length + 1) cap') (Ps.length + 1) (pieC Ps ++ [.string (s.extract i na), .string (s.extract na nb)])) := hown'; have HB3 : Hid (Below w.heap.size w w6) := (HB.out.alloc (by omega) _).grown ⟨hgr'.os, hgr'.tape, hgr'.output, hgr'.size, hgr'.block⟩ (by simp; omega) (fun x e => HOW.out x e); clear hfr' hlt2 hown' hgr'))
      all_goals
        go_wp2_with fail
        go_roundw
        case rel =>
          have ho := HO3.out
          rw [pieC_snoc] at ho
          exact ⟨j + 1, nb, Ps ++ [(s.extract i na, s.extract na nb)], by omega, rfl, H4, HN, by omega, by simp; omega, by rw [List.length_append]; rw [hpl] at ho ⊢; exact ho, HB3.out⟩
        case measure => simp [intOf]; omega
    · obtain rfl : j = its.length := by omega
      have hie : s.size = i := by rw [← HEND.out, ← HI.out, List.take_of_length_le (Nat.le_refl _)]
      subst hie
      have hn : ¬ (s.size : Int) < (s.size : Int) := by omega
      have HP2 : Hid (Ps.map (fun x => (txt x.1, txt x.2)) = its.map (fun i => (i.la, i.m.text))) := by
        have := HPS.out
        rw [List.take_of_length_le (Nat.le_refl _)] at this
        exact this
      have HO : Hid (wr.ownsRow w.heap.size 143 2 u3 Ps.length (pieC Ps)) := hown
      have HB : Hid (Below w.heap.size w wr) := hB
      clear HPS HI hown hB hpl
      go_wp2_with fail
      go_ret
      exact ⟨_, Ps, rfl, HP2.out, HO.out, HB.out⟩
end Go.Proofs.YtpngikmcjkjdaaaGreatDoor
namespace Go.Proofs.YtpngikmcjkjdaaaGreatDoor
open Go.RowKit
set_option linter.unusedVariables false
set_option linter.unusedSimpArgs false
theorem app_size_le (m : Mk) (hm : m.ok) (q : Pat) : (m.app q).size ≤ q.size * 10 := by
  cases m with
  | none => show q.size ≤ _; omega
  | star => show q.size * 1 ≤ _; omega
  | plus => show q.size * 2 ≤ _; omega
  | opt => show q.size * 1 ≤ _; omega
  | just n => exact Nat.mul_le_mul_left _ (by have : n ≤ 9 := hm; omega)
  | more n => exact Nat.mul_le_mul_left _ (by have : n ≤ 9 := hm; omega)
  | span n m => exact Nat.mul_le_mul_left _ (by have : n ≤ m ∧ m ≤ 9 := hm; omega)
def SizA (A : List Nat → Pat → Prop) (B : Nat) : Prop := ∀ l p, A l p → p.size ≤ l.length * B
theorem its_size {A : List Nat → Pat → Prop} {B : Nat} (hA : SizA A B) {its : List Itm} (h : ∀ i ∈ its, A i.la i.q ∧ i.m.ok) : (its.map fun i => i.pat.size).sum ≤ (its.flatMap Itm.text).length * (B * 10) := by
  induction its with
  | nil => simp
  | cons i its ih =>
    have h1 := ih (fun y hy => h y (by simp [hy]))
    obtain ⟨h2, h3⟩ := h i (by simp)
    have h4 := hA _ _ h2
    have h5 := app_size_le i.m h3 i.q
    simp only [List.map_cons, List.sum_cons, List.flatMap_cons, List.length_append, Nat.add_mul]
    have h6 : i.q.size * 10 ≤ i.la.length * (B * 10) := by rw [← Nat.mul_assoc]; exact Nat.mul_le_mul_right _ h4
    have h7 : i.la.length * (B * 10) ≤ i.text.length * (B * 10) := Nat.mul_le_mul_right _ (by simp [Itm.text])
    have h8 : i.pat.size = (i.m.app i.q).size := rfl
    omega
theorem SeqT.size_le {A : List Nat → Pat → Prop} {B : Nat} (hA : SizA A B) {l : List Nat} {p : Pat} (h : SeqT A l p) : p.size ≤ l.length * (B * 10) := by
  obtain ⟨its, h1, rfl, rfl⟩ := h
  rw [chainL_size]
  simpa [Pat.size] using its_size hA h1
theorem PatT.size_le {A : List Nat → Pat → Prop} {B : Nat} (hA : SizA A B) {l : List Nat} {p : Pat} (h : PatT A l p) : p.size ≤ l.length * (B * 10) := by
  obtain ⟨x, xs, h1, h2, rfl, rfl⟩ := h
  have h3 := h1.size_le hA
  rw [altL_size, List.length_append, Nat.add_mul]
  have h4 : (xs.map fun y => y.2.size).sum ≤ (barsL xs).length * (B * 10) := by
    clear h1 h3
    induction xs with
    | nil => simp
    | cons y xs ih =>
      have h5 := ih (fun z hz => h2 z (by simp [hz]))
      have h6 := (h2 y (by simp)).size_le hA
      have h7 : (barsL (y :: xs)).length = 1 + y.1.length + (barsL xs).length := by simp [barsL]; omega
      rw [h7, List.map_cons, List.sum_cons, Nat.add_mul, Nat.add_mul]
      omega
  omega
theorem atomT_size (k : Nat) : SizA (AtomT k) (10 ^ k) := by
  have h0 : ∀ l p, Atom0T l p → p.size = 1 ∧ 1 ≤ l.length := by
    intro l p h
    rcases h with ⟨c, hc, rfl, rfl⟩ | ⟨rfl, rfl⟩ | ⟨ps, _, h1, ⟨rfl, rfl⟩ | ⟨rfl, rfl⟩⟩
    · exact ⟨rfl, by simp⟩
    · exact ⟨rfl, by simp⟩
    · exact ⟨rfl, by simp⟩
    · exact ⟨rfl, by simp⟩
  induction k with
  | zero => intro l p h; have := h0 l p h; rw [this.1]; simp; omega
  | succ k ih =>
    intro l p h
    rcases h with h | ⟨l', rfl, h⟩
    · have := h0 l p h
      rw [this.1]
      have : 1 ≤ 10 ^ (k + 1) := Nat.pow_pos (by omega)
      exact Nat.le_trans (by omega) (Nat.mul_le_mul (show 1 ≤ l.length by omega) this)
    · have := h.size_le ih
      rw [Nat.pow_succ]
      exact Nat.le_trans this (Nat.mul_le_mul_right _ (by simp; omega))
theorem atom0_size {l : List Nat} {p : Pat} (h : Atom0T l p) : p.size = 1 := by
  rcases h with ⟨c, hc, rfl, rfl⟩ | ⟨rfl, rfl⟩ | ⟨ps, _, h1, ⟨rfl, rfl⟩ | ⟨rfl, rfl⟩⟩ <;> rfl
theorem big_small {k n : Nat} (hk : k ≤ 6) (hn : n ≤ 40) : n * 10 ^ k ≤ 40000000 := by
  have h1 : 10 ^ k ≤ 10 ^ 6 := Nat.pow_le_pow_right (by omega) hk
  have h2 : n * 10 ^ k ≤ 40 * 10 ^ 6 := Nat.mul_le_mul hn h1
  omega
def SizeC (k : Nat) : Prop := ∀ (s : ByteArray) (p : Pat) (w : World), s.size ≤ 40 → PatT (AtomT k) (txt s) p → Calls Tryz.prog 71 #[.string s] w fun e w' => e = .returned (.int .i64 (p.size : Int)) ∧ Below w.heap.size w w'
def SizeOfC (k : Nat) : Prop := ∀ (x y : ByteArray) (i : Itm) (w : World), x.size ≤ 40 → AtomT k i.la i.q → i.m.ok → txt x = i.la → txt y = i.m.text → Calls Tryz.prog 113 #[.agg #[.string x, .string y]] w fun e w' => e = .returned (.int .i64 (i.pat.size : Int)) ∧ Below w.heap.size w w'
theorem wrap_mul_small' {a b : Int} (ha : 0 ≤ a) (hb : 0 ≤ b) (ha2 : a ≤ 10) (hb2 : b ≤ 1000000000) : wrap64 (a * b) = a * b := by
  have h1 : a * b ≤ 10 * 1000000000 := Int.mul_le_mul ha2 hb2 hb (by omega)
  have h2 : 0 ≤ a * b := Int.mul_nonneg ha hb
  unfold wrap64
  omega
theorem mk_ways (m : Mk) (hm : m.ok) (q : Pat) : (∃ h : Nat, m.hi = (h : Int) ∧ h ≤ 9 ∧ (m.app q).size = h * q.size) ∨ (m = .star ∧ (m.app q).size = q.size) ∨ (m.hi = -1 ∧ m ≠ .star ∧ m.lo ≤ 9 ∧ (m.app q).size = (m.lo + 1) * q.size) := by
  cases m with
  | none => exact .inl ⟨1, rfl, by omega, by show q.size = _; omega⟩
  | star => exact .inr (.inl ⟨rfl, by show q.size * 1 = _; omega⟩)
  | plus => exact .inr (.inr ⟨rfl, by simp, by show 1 ≤ 9; omega, by show q.size * 2 = (1 + 1) * q.size; omega⟩)
  | opt => exact .inl ⟨1, rfl, by omega, by show q.size * 1 = _; omega⟩
  | just n => exact .inl ⟨n, rfl, hm, by show q.size * n = _; exact Nat.mul_comm _ _⟩
  | more n => exact .inr (.inr ⟨rfl, by simp, hm, by show q.size * (n + 1) = (n + 1) * q.size; exact Nat.mul_comm _ _⟩)
  | span n m => exact .inl ⟨m, rfl, hm.2, by show q.size * m = _; exact Nat.mul_comm _ _⟩
def Mk.isStar : Mk → Bool
  | .star => true
  | _ => false
theorem isStar_no {m : Mk} (h : m ≠ .star) : m.isStar = false := by cases m <;> first | rfl | exact absurd rfl h
theorem star_text {m : Mk} {y : ByteArray} (h : txt y = m.text) : (y.toList == [42]) = m.isStar := by
  have hl := toList_txt h
  cases m <;> simp only [Mk.text, List.map] at hl <;> rw [hl] <;> rfl
structure AtomSz (x : ByteArray) (n : Nat) : Prop where
  pos : 1 ≤ x.size
  sz : n ≤ 40000000
  way : (byteAt x 0 ≠ 40 ∧ n = 1) ∨ (byteAt x 0 = 40 ∧ 2 ≤ x.size ∧ ∀ w, Calls Tryz.prog 71 #[.string (x.extract 1 (x.size - 1))] w fun e w' => e = .returned (.int .i64 (n : Int)) ∧ Below w.heap.size w w')
set_option maxRecDepth 20000 in
set_option maxHeartbeats 4000000 in
theorem rsizeOf_gen (x y : ByteArray) (m : Mk) (n r : Nat) (w : World) (hx : x.size ≤ 40) (hm : m.ok) (hy : txt y = m.text) (hn : AtomSz x n) (hr : (∃ h : Nat, m.hi = (h : Int) ∧ h ≤ 9 ∧ r = h * n) ∨ (m = .star ∧ r = n) ∨ (m.hi = -1 ∧ m ≠ .star ∧ m.lo ≤ 9 ∧ r = (m.lo + 1) * n)) :
    Calls Tryz.prog 113 #[.agg #[.string x, .string y]] w fun e w' => e = .returned (.int .i64 (r : Int)) ∧ Below w.heap.size w w' := by
  have hst := star_text hy
  obtain ⟨W, hW⟩ : ∃ W, W = w.alloc (.cells #[.string x, .string y] 143) := ⟨_, rfl⟩
  have BW : Below w.heap.size w W := by rw [hW]; exact (Below.refl _ _).alloc (Nat.le_refl _) _
  have hWs : w.heap.size < W.heap.size := by rw [hW]; simp
  have b0 : W.heap[w.heap.size]? = some (.cells #[.string x, .string y] 143 (0, 0)) := by rw [hW]; exact heap_at_new rfl
  obtain ⟨c0, c1, _, _⟩ := cell_two b0
  have hp := hn.pos
  have hnz := hn.sz
  have hce := byteAt_eq (s := x) (a := 0) (by omega)
  obtain ⟨hi, HHI⟩ : ∃ z, Hid (m.hi = z) := ⟨_, rfl⟩
  obtain ⟨lo, HLO⟩ : ∃ z, Hid (m.lo = z) := ⟨_, rfl⟩
  rw [HHI.out, HLO.out] at hr
  rcases hn.way with ⟨h40, rfl⟩ | ⟨h40, hx2, HC⟩
  · have t40 : ((x[0].toNat : Int) == 40) = false := by rw [← hce]; simp only [beq_eq_false_iff_ne, ne_eq]; omega
    clear hce h40 hn
    rcases hr with ⟨h, rfl, hh, rfl⟩ | ⟨rfl, rfl⟩ | ⟨rfl, hne, hlo, rfl⟩
    · go_enter Tryz.func113, Tryz.ntmps113
      go_upto_region 1 with fail
      rw [← hW]
      clear hW
      have HT := rtimes_ok _ y W hm hy
      have B1 : Below w.heap.size w W := BW
      have d0 := b0
      rw [HHI.out, HLO.out] at HT
      clear hst hm hy
      go_wp2_with fail
      refine HT.mono ?_
      clear HT
      rintro e w2 ⟨rfl, hB2⟩
      have B2 : Below w.heap.size w w2 := B1.trans (hB2.mono (by have := B1.size; have := heap_lt d0; omega))
      have f0 := (hB2.block _ (heap_lt d0)).trans d0
      clear c0 c1
      obtain ⟨c0, c1, _, _⟩ := cell_two f0
      clear hB2
      have hwr := wrap_mul_small' (a := (h : Int)) (b := (1 : Int)) (by omega) (by omega) (by omega) (by omega)
      have hge : (0 : Int) ≤ (h : Int) := by omega
      go_wp2_with fail
      go_ret
      exact ⟨ret_int (by first | (rw [hwr]; simp) | simp), B2⟩
    · go_enter Tryz.func113, Tryz.ntmps113
      go_upto_region 1 with fail
      rw [← hW]
      clear hW
      have HT := rtimes_ok _ y W hm hy
      have B1 : Below w.heap.size w W := BW
      have d0 := b0
      have HST : Hid ((y.toList == [42]) = true) := hst
      simp only [show Mk.star.lo = 0 from rfl, show Mk.star.hi = -1 from rfl, show ((0 : Nat) : Int) = 0 from rfl] at HT
      clear hst hm hy HHI HLO
      go_wp2_with fail
      refine HT.mono ?_
      clear HT
      rintro e w2 ⟨rfl, hB2⟩
      have B2 : Below w.heap.size w w2 := B1.trans (hB2.mono (by have := B1.size; have := heap_lt d0; omega))
      have f0 := (hB2.block _ (heap_lt d0)).trans d0
      clear c0 c1
      obtain ⟨c0, c1, _, _⟩ := cell_two f0
      clear hB2
      have hst2 : (y.toList == [42]) = true := HST.out
      go_wp2_with fail
      go_ret
      exact ⟨rfl, B2⟩
    · go_enter Tryz.func113, Tryz.ntmps113
      go_upto_region 1 with fail
      rw [← hW]
      clear hW
      have HT := rtimes_ok _ y W hm hy
      have B1 : Below w.heap.size w W := BW
      have d0 := b0
      have HST : Hid ((y.toList == [42]) = false) := by unfold Hid; rw [hst]; exact isStar_no hne
      rw [HHI.out, HLO.out] at HT
      clear hst hm hy hne
      go_wp2_with fail
      refine HT.mono ?_
      clear HT
      rintro e w2 ⟨rfl, hB2⟩
      have B2 : Below w.heap.size w w2 := B1.trans (hB2.mono (by have := B1.size; have := heap_lt d0; omega))
      have f0 := (hB2.block _ (heap_lt d0)).trans d0
      clear c0 c1
      obtain ⟨c0, c1, _, _⟩ := cell_two f0
      clear hB2
      have hst2 : (y.toList == [42]) = false := HST.out
      have hwr := wrap_mul_small' (a := (lo : Int) + 1) (b := (1 : Int)) (by omega) (by omega) (by omega) (by omega)
      go_wp2_with fail
      go_ret
      exact ⟨ret_int (by first | (rw [hwr]; simp) | simp), B2⟩
  · have t40 : ((x[0].toNat : Int) == 40) = true := by rw [← hce, h40]; rfl
    have HC := HC W
    have hxs : ((x.size : Int) - 1) = ((x.size - 1 : Nat) : Int) := by omega
    obtain ⟨xe, HXE⟩ : ∃ z, Hid (x.size - 1 = z) := ⟨_, rfl⟩
    rw [HXE.out] at HC hxs
    have hx3 : 1 ≤ xe := by rw [← HXE.out]; omega
    have hx4 : xe ≤ x.size := by rw [← HXE.out]; omega
    clear hce h40 hn
    rcases hr with ⟨h, rfl, hh, rfl⟩ | ⟨rfl, rfl⟩ | ⟨rfl, hne, hlo, rfl⟩
    · go_enter Tryz.func113, Tryz.ntmps113
      go_upto_region 1 with fail
      rw [← hW]
      clear hW
      go_wp2_with fail
      refine HC.mono ?_
      clear HC
      rintro e w1 ⟨rfl, hB1⟩
      have B1 : Below w.heap.size w w1 := BW.trans (hB1.mono (by omega))
      have d0 := (hB1.block _ (by omega)).trans b0
      clear c0 c1
      obtain ⟨c0, c1, _, _⟩ := cell_two d0
      have HT := rtimes_ok _ y w1 hm hy
      rw [HHI.out, HLO.out] at HT
      clear hst hm hy
      go_wp2_with fail
      refine HT.mono ?_
      clear HT
      rintro e w2 ⟨rfl, hB2⟩
      have B2 : Below w.heap.size w w2 := B1.trans (hB2.mono (by have := B1.size; have := heap_lt d0; omega))
      have f0 := (hB2.block _ (heap_lt d0)).trans d0
      clear c0 c1
      obtain ⟨c0, c1, _, _⟩ := cell_two f0
      clear hB2
      have hwr := wrap_mul_small' (a := (h : Int)) (b := (n : Int)) (by omega) (by omega) (by omega) (by omega)
      have hge : (0 : Int) ≤ (h : Int) := by omega
      go_wp2_with fail
      go_ret
      exact ⟨ret_int (by first | (rw [hwr]; simp) | simp), B2⟩
    · go_enter Tryz.func113, Tryz.ntmps113
      go_upto_region 1 with fail
      rw [← hW]
      clear hW
      go_wp2_with fail
      refine HC.mono ?_
      clear HC
      rintro e w1 ⟨rfl, hB1⟩
      have B1 : Below w.heap.size w w1 := BW.trans (hB1.mono (by omega))
      have d0 := (hB1.block _ (by omega)).trans b0
      clear c0 c1
      obtain ⟨c0, c1, _, _⟩ := cell_two d0
      have HT := rtimes_ok _ y w1 hm hy
      have HST : Hid ((y.toList == [42]) = true) := hst
      simp only [show Mk.star.lo = 0 from rfl, show Mk.star.hi = -1 from rfl, show ((0 : Nat) : Int) = 0 from rfl] at HT
      clear hst hm hy HHI HLO
      go_wp2_with fail
      refine HT.mono ?_
      clear HT
      rintro e w2 ⟨rfl, hB2⟩
      have B2 : Below w.heap.size w w2 := B1.trans (hB2.mono (by have := B1.size; have := heap_lt d0; omega))
      have f0 := (hB2.block _ (heap_lt d0)).trans d0
      clear c0 c1
      obtain ⟨c0, c1, _, _⟩ := cell_two f0
      clear hB2
      have hst2 : (y.toList == [42]) = true := HST.out
      go_wp2_with fail
      go_ret
      exact ⟨rfl, B2⟩
    · go_enter Tryz.func113, Tryz.ntmps113
      go_upto_region 1 with fail
      rw [← hW]
      clear hW
      go_wp2_with fail
      refine HC.mono ?_
      clear HC
      rintro e w1 ⟨rfl, hB1⟩
      have B1 : Below w.heap.size w w1 := BW.trans (hB1.mono (by omega))
      have d0 := (hB1.block _ (by omega)).trans b0
      clear c0 c1
      obtain ⟨c0, c1, _, _⟩ := cell_two d0
      have HT := rtimes_ok _ y w1 hm hy
      have HST : Hid ((y.toList == [42]) = false) := by unfold Hid; rw [hst]; exact isStar_no hne
      rw [HHI.out, HLO.out] at HT
      clear hst hm hy hne
      go_wp2_with fail
      refine HT.mono ?_
      clear HT
      rintro e w2 ⟨rfl, hB2⟩
      have B2 : Below w.heap.size w w2 := B1.trans (hB2.mono (by have := B1.size; have := heap_lt d0; omega))
      have f0 := (hB2.block _ (heap_lt d0)).trans d0
      clear c0 c1
      obtain ⟨c0, c1, _, _⟩ := cell_two f0
      clear hB2
      have hst2 : (y.toList == [42]) = false := HST.out
      have hwr := wrap_mul_small' (a := (lo : Int) + 1) (b := (n : Int)) (by omega) (by omega) (by omega) (by omega)
      go_wp2_with fail
      go_ret
      exact ⟨ret_int (by first | (rw [hwr]; simp) | simp), B2⟩
end Go.Proofs.YtpngikmcjkjdaaaGreatDoor
