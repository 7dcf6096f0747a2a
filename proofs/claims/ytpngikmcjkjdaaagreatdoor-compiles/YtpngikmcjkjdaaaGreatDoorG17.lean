import Derived.BigQuiet
import Derived.Deep.RegionHeld3
import Derived.Deep.RegionWith
import Derived.Test.YtpngikmcjkjdaaaGreatDoorG11
import Derived.Test.YtpngikmcjkjdaaaGreatDoorG13
import Derived.Test.YtpngikmcjkjdaaaGreatDoorG14
import Derived.Test.YtpngikmcjkjdaaaGreatDoorG16
set_option linter.unusedVariables false
set_option linter.unusedSimpArgs false
namespace Go.Proofs.YtpngikmcjkjdaaaGreatDoor
open Go.RowKit
set_option linter.unusedVariables false
set_option linter.unusedSimpArgs false
structure ExOk (E : Ex) (p : Pat) : Prop where
  can : E.can
  lang : ∀ y, E.lang y ↔ p.norm.lang y
  let_ : E.letters ≤ p.size
  wt : E.nm.length ≤ p.wt
  dp : E.dep ≤ p.dp
theorem app_norm (m : Mk) (q : Pat) : (m.app q).norm = m.app q.norm := by cases m <;> rfl
theorem ExOk.rep {x : Ex} {q : Pat} (h : ExOk x q) {m : Mk} (hm : m.ok) : ExOk (x.repd m.lo m.hi) (m.app q) :=
  ⟨can_repd h.can _ _, fun y => by rw [app_norm]; exact repd_lang x q.norm h.lang m hm y, repd_letters x q h.let_ m hm, repd_wt x q h.wt m hm, repd_dp x q h.dp m hm⟩
theorem chainL_norm (p : Pat) (its : List Itm) : (chainL p its).norm = chainL p.norm (its.map fun i => ⟨i.la, i.q.norm, i.m⟩) := by
  induction its generalizing p with
  | nil => rfl
  | cons i its ih =>
    show (chainL (.chain p i.pat) its).norm = _
    rw [ih]
    show chainL (.chain p.norm i.pat.norm) _ = chainL (.chain p.norm (Itm.pat ⟨i.la, i.q.norm, i.m⟩)) _
    rw [show i.pat.norm = Itm.pat ⟨i.la, i.q.norm, i.m⟩ from app_norm i.m i.q]
theorem ExOk.nil : ExOk .nil (chainL .none []) := ⟨trivial, fun y => Iff.rfl, Nat.le_refl _, Nat.le_refl _, Nat.le_refl _⟩
theorem ExOk.cons {r e : Ex} {it : Itm} {its : List Itm} (hr : ExOk r it.pat) (he : ExOk e (chainL .none its)) : ExOk (r.thn' e) (chainL .none (it :: its)) := by
  refine ⟨can_thn' hr.can he.can, fun y => ?_, ?_, ?_, ?_⟩
  · rw [thn'_lang, Cat.congr hr.lang he.lang y]
    show _ ↔ (chainL (.chain .none it.pat) its).norm.lang y
    rw [chainL_norm, chainL_norm]
    show Cat it.pat.norm.lang (chainL .none _).lang y ↔ (chainL (.chain .none it.pat.norm) _).lang y
    rw [chainL_lang (.chain .none it.pat.norm)]
    exact Cat.congr (fun u => (cat_nil_left u).symm) (fun _ => Iff.rfl) y
  · have h1 := thn'_letters r e
    have h2 := hr.let_
    have h3 := he.let_
    rw [chainL_size] at h3 ⊢
    simp only [List.map_cons, List.sum_cons, Pat.size] at h3 ⊢
    omega
  · have h1 := thn'_len r e
    have h2 := hr.wt
    have h3 := he.wt
    rw [chainL_wt] at h3 ⊢
    simp only [List.map_cons, List.sum_cons, Pat.wt] at h3 ⊢
    omega
  · have h1 := thn'_dep r e
    have h2 := hr.dp
    have h3 := he.dp
    rw [chainL_dp] at h3 ⊢
    simp only [List.map_cons, List.sum_cons, Pat.dp] at h3 ⊢
    omega
theorem ExOk.alt {e x : Ex} {p q : Pat} (he : ExOk e p) (hx : ExOk x q) : ExOk (e.alt' x) (.alt p q) := by
  refine ⟨can_alt' he.can hx.can, fun y => ?_, ?_, ?_, ?_⟩
  · rw [alt'_lang, he.lang y, hx.lang y]; exact Iff.rfl
  · have h1 := alt'_letters e x
    have h2 := he.let_
    have h3 := hx.let_
    simp only [Pat.size]; omega
  · have h1 := alt'_len e x
    have h2 := he.wt
    have h3 := hx.wt
    simp only [Pat.wt]; omega
  · have h1 := alt'_dep e x
    have h2 := he.dp
    have h3 := hx.dp
    simp only [Pat.dp]; omega
def MPost (p : Pat) (w : World) (e : Ending) (w' : World) : Prop := ∃ g E, e = .returned (.pointer (some ⟨g, 0, none⟩)) ∧ ExAt w' g E ∧ ExOk E p ∧ Below w.heap.size w w'
theorem MPost.of {E : Ex} {p : Pat} {w w' : World} {e : Ending} (h : ExPost E w e w') (hE : ExOk E p) : MPost p w e w' := by
  obtain ⟨g, h1, h2, h3⟩ := h
  exact ⟨g, E, h1, h2, hE, h3⟩
theorem one_ok {S S' : Nat → Bool} (h : ∀ c, c < 8 → S' c = S c) (h8 : ∀ c, 8 ≤ c → S' c = false) : ExOk (.one S') (.one S) := by
  have e : S' = fun c => decide (c < 8) && S c := by
    funext c
    by_cases hc : c < 8
    · rw [h c hc]; simp [hc]
    · rw [h8 c (by omega)]; simp [hc]
  exact ⟨h8, fun y => by subst e; exact Iff.rfl, Nat.le_refl _, one_len _, Nat.le_refl _⟩
theorem no_eight (f : Nat → Bool) : ∀ c, 8 ≤ c → (decide (c < 8) && f c) = false := fun c hc => by
  have : ¬ c < 8 := by omega
  simp [this]
theorem rnote_ok (a : ByteArray) (la : List Nat) (q : Pat) (w : World) (hs : a.size ≤ 40) (h : Atom0T la q) (ha : txt a = la) : byteAt a 0 ≠ 40 ∧ 1 ≤ a.size ∧ Calls Tryz.prog 154 #[.string a] w (MPost q w) := by
  have hsz : a.size = la.length := by rw [← txt_len, ha]
  rcases h with ⟨c, hc, rfl, rfl⟩ | ⟨rfl, rfl⟩ | ⟨ps, hps, h1, ⟨rfl, rfl⟩ | ⟨rfl, rfl⟩⟩
  · have hb := (byte_txt ha (j := 0) (by simp)).2
    refine ⟨by rw [hb]; simp; omega, by rw [hsz]; simp, (rnote_one a (97 + c) w ha (by omega)).mono (fun e w' h => MPost.of h (one_ok (fun x hx => ?_) (no_eight _)))⟩
    have e1 : (97 + c == 46) = false := by simp; omega
    have e2 : (97 + c == 97 + x) = decide (x = c) := by rw [Bool.eq_iff_iff]; simp; omega
    rw [e1, e2]; simp [hx]
  · have hb := (byte_txt ha (j := 0) (by simp)).2
    refine ⟨by rw [hb]; simp, by rw [hsz]; simp, (rnote_one a 46 w ha (by omega)).mono (fun e w' h => MPost.of h (one_ok (fun x hx => by simp [hx]) (no_eight _)))⟩
  · have hb := (byte_txt ha (j := 0) (by simp)).2
    obtain ⟨p0, ps', rfl⟩ : ∃ p0 ps', ps = p0 :: ps' := by
      cases ps with
      | nil => exact absurd rfl hps
      | cons p0 ps' => exact ⟨p0, ps', rfl⟩
    have hp0 := h1 p0 (by simp)
    have hln : 2 ≤ a.size := by rw [hsz]; simp; omega
    have hb1 : byteAt a 1 = 97 + p0.f := by
      have := (byte_txt ha (j := 1) (by simp; omega)).2
      rw [this, List.flatMap_cons]
      unfold Prt.text
      cases p0.dash <;> rfl
    refine ⟨by rw [hb]; simp, by omega, (rnote_set a ((p0 :: ps').flatMap Prt.text ++ [93]) false w hs (ha.trans (by simp)) hln (by rw [hb1]; simp; have := hp0.1; omega) (ok_parts h1)).mono (fun e w' h => MPost.of h (one_ok (fun x hx => ?_) (no_eight _)))⟩
    have e1 := cov_parts h1 x hx
    rw [setN_any, Bool.false_or, ← e1]
    simp only [hx, decide_true, Bool.true_and]
    cases covL ((p0 :: ps').flatMap Prt.text ++ [93]) x <;> rfl
  · have hb := (byte_txt ha (j := 0) (by simp)).2
    have hln : 2 ≤ a.size := by rw [hsz]; simp
    have hb1 : byteAt a 1 = 94 := by
      have := (byte_txt ha (j := 1) (by simp)).2
      rw [this]; rfl
    have hokl : okL (94 :: ps.flatMap Prt.text ++ [93]) := ⟨fun h => by simp [isNoteN] at h, ok_parts h1⟩
    refine ⟨by rw [hb]; simp, by omega, (rnote_set a (94 :: ps.flatMap Prt.text ++ [93]) true w hs (ha.trans (by simp)) hln (by rw [hb1]; rfl) hokl).mono (fun e w' h => MPost.of h (one_ok (fun x hx => ?_) (no_eight _)))⟩
    have e1 := cov_parts h1 x hx
    have e2 : covL (94 :: ps.flatMap Prt.text ++ [93]) x = covL (ps.flatMap Prt.text ++ [93]) x := by
      show ((isNoteN 94 && _ && _) || covL (ps.flatMap Prt.text ++ [93]) x) = _
      rw [show isNoteN 94 = false from rfl]; simp
    rw [setN_any, Bool.false_or, ← e1, e2]
    simp only [hx, decide_true, Bool.true_and]
    cases covL (ps.flatMap Prt.text ++ [93]) x <;> rfl
def MeanM (k : Nat) : Prop := ∀ (s : ByteArray) (p : Pat) (w : World), s.size ≤ 40 → PatT (AtomT k) (txt s) p → Calls Tryz.prog 73 #[.string s] w (MPost p w)
def AtomM (k : Nat) : Prop := ∀ (y : ByteArray) (la : List Nat) (q : Pat) (w : World), y.size ≤ 40 → AtomT k la q → txt y = la →
  (1 ≤ y.size ∧ byteAt y 0 ≠ 40 ∧ Calls Tryz.prog 154 #[.string y] w (MPost q w)) ∨ (byteAt y 0 = 40 ∧ 2 ≤ y.size ∧ Calls Tryz.prog 73 #[.string (y.extract 1 (y.size - 1))] w (MPost q w))
theorem atomM_zero : AtomM 0 := fun y la q w hs h ht => by
  obtain ⟨h1, h2, h3⟩ := rnote_ok y la q w hs h ht
  exact .inl ⟨h2, h1, h3⟩
theorem atomM_succ (k : Nat) (HM : MeanM k) : AtomM (k + 1) := by
  intro y la q w hs h ht
  rcases h with h | ⟨l', rfl, h⟩
  · obtain ⟨h1, h2, h3⟩ := rnote_ok y la q w hs h ht
    exact .inl ⟨h2, h1, h3⟩
  · have hyl : y.size = l'.length + 2 := by rw [← txt_len, ht]; simp
    have hin : txt (y.extract 1 (y.size - 1)) = l' := by
      rw [txt_extract]
      have := (sub_mid (s := y) (pre := [40]) (l := l') (post := [41]) (by rw [ht]; simp)).1
      rw [hyl]
      simp only [List.length_singleton] at this
      rw [show l'.length + 2 - 1 = 1 + l'.length by omega]
      exact this
    refine .inr ⟨?_, by omega, HM _ _ w ?_ (by rw [hin]; exact h)⟩
    · have := (byte_txt ht (j := 0) (by simp)).2
      rw [this]; rfl
    · rw [← txt_len, hin]; omega
theorem drop_item {its : List Itm} {j : Nat} {it : Itm} (h : its[j]? = some it) : its.drop j = it :: its.drop (j + 1) := by
  have hj := (List.getElem?_eq_some_iff.1 h).1
  rw [List.drop_eq_getElem_cons hj]
  rw [List.getElem?_eq_getElem hj] at h
  simp at h
  rw [h]
theorem mk_bounds {m : Mk} (h : m.ok) : m.lo ≤ 9 ∧ m.hi ≤ 9 ∧ (m.hi < 0 ∨ (m.lo : Int) ≤ m.hi) := by
  cases m with
  | none => exact ⟨by show 1 ≤ 9; omega, by show (1 : Int) ≤ 9; omega, .inr (by show (1 : Int) ≤ 1; omega)⟩
  | star => exact ⟨by show 0 ≤ 9; omega, by show (-1 : Int) ≤ 9; omega, .inl (by show (-1 : Int) < 0; omega)⟩
  | plus => exact ⟨by show 1 ≤ 9; omega, by show (-1 : Int) ≤ 9; omega, .inl (by show (-1 : Int) < 0; omega)⟩
  | opt => exact ⟨by show 0 ≤ 9; omega, by show (1 : Int) ≤ 9; omega, .inr (by show (0 : Int) ≤ 1; omega)⟩
  | just n => have h' : n ≤ 9 := h; exact ⟨h', by show (n : Int) ≤ 9; omega, .inr (by show (n : Int) ≤ n; omega)⟩
  | more n => have h' : n ≤ 9 := h; exact ⟨h', by show (-1 : Int) ≤ 9; omega, .inl (by show (-1 : Int) < 0; omega)⟩
  | span n m => have h' : n ≤ m ∧ m ≤ 9 := h; exact ⟨by show n ≤ 9; omega, by show (m : Int) ≤ 9; omega, .inr (by show (n : Int) ≤ m; omega)⟩
set_option maxRecDepth 20000 in
set_option maxHeartbeats 8000000 in
theorem rsequence_ok (k : Nat) (HA : AtomM k) (s : ByteArray) (its : List Itm) (w : World) (hs : s.size ≤ 40) (hits : ∀ i ∈ its, AtomT k i.la i.q ∧ i.m.ok) (ht : txt s = its.flatMap Itm.text) :
    Calls Tryz.prog 118 #[.string s] w (MPost (chainL .none its) w) := by
  have HC := rpieces_ok k s its w hs hits ht
  have hil : its.length ≤ s.size := by have := its_len hits; rw [← ht, txt_len] at this; exact this
  have HIT : Hid (∀ (j : Nat) (it : Itm), its[j]? = some it → AtomT k it.la it.q ∧ it.m.ok ∧ it.la.length ≤ s.size) := by
    intro j it hj
    have hm := List.mem_of_getElem? hj
    obtain ⟨h1, h2⟩ := hits it hm
    refine ⟨h1, h2, ?_⟩
    obtain ⟨it', hj', _, _, _, _, h3, _⟩ := item_at hits ht (j := j) (List.getElem?_eq_some_iff.1 hj).1
    rw [hj] at hj'
    simp only [Option.some.injEq] at hj'
    subst hj'
    omega
  clear hits ht
  go_enter Tryz.func118, Tryz.ntmps118
  go_wp2_with fail
  refine HC.mono ?_
  clear HC
  rintro e w1 ⟨v, Ps, rfl, hP, hown, hB1⟩
  obtain ⟨ao, cap, rfl, _⟩ := ownsRow_shape hown
  have hPn : Ps.length = its.length := by have := congrArg List.length hP; simpa using this
  have HP : Hid (Ps.map (fun x => (txt x.1, txt x.2)) = its.map (fun i => (i.la, i.m.text))) := hP
  have HOW : Hid (w1.ownsRow w.heap.size 143 2 (.slice ao Ps.length cap) Ps.length (pieC Ps)) := hown
  have hsz1 := hB1.size
  obtain ⟨n, HN⟩ : ∃ x, Hid (its.length = x) := ⟨_, rfl⟩
  rw [HN.out] at hPn hil
  have HPN : Hid (Ps.length = n) := hPn
  rw [hPn]
  clear hP hown hPn
  have HC := rnothing_ok w1
  go_wp2_with fail
  refine HC.mono ?_
  clear HC
  rintro e w2 ⟨g2, rfl, hE2, hB2⟩
  have S0 : ExOk .nil (chainL .none (its.drop n)) := by rw [List.drop_of_length_le (by rw [HN.out]; omega)]; exact ExOk.nil
  go_wp2_with fail
  go_loopw [4, 5, 6, 7, 8, 9] (fun v' i' _ _ _ _ wr => ∃ (j g : Nat) (E : Ex), j ≤ n ∧ v' = .pointer (some ⟨g, 0, none⟩) ∧ i' = .int .i64 ((j : Int) - 1) ∧ ExAt wr g E ∧ Hid (ExOk E (chainL .none (its.drop j))) ∧ Below w1.heap.size w1 wr) (fun _ i' _ _ _ _ _ => (intOf i' + 1).toNat)
  case atStart => exact ⟨n, g2, .nil, Nat.le_refl _, rfl, rfl, hE2, S0, hB2⟩
  case round =>
    clear S0 hE2 hB2
    obtain ⟨j, g3, E, hj, rfl, rfl, hE3, HEO, hB3⟩ := hrel
    have hsz3 := hB3.size
    cases j with
    | zero =>
      have hB : Below w.heap.size w wr := hB1.trans (hB3.mono (by omega))
      have HE : Hid (ExAt wr g3 E) := hE3
      have HEO2 : Hid (ExOk E (chainL .none its)) := HEO
      clear hE3 HEO hB3
      go_wp2_with fail
      go_ret
      exact ⟨g3, E, rfl, HE.out, HEO2.out, hB⟩
    | succ j =>
      have hjj : (((j + 1 : Nat) : Int) - 1) = (j : Int) := by omega
      rw [hjj]
      obtain ⟨y, it, hy, hit, ht1, ht2⟩ := pie_one HP.out (j := j) (by rw [HN.out]; omega)
      obtain ⟨g2', rfl, _, hg3, hg4, hc1, hc2⟩ := pie_cell HOW.out hy
      obtain ⟨hA, hok, hle⟩ := HIT.out j it hit
      have e1 := (hB3.cell (p := ⟨g2', j * 2, none⟩) hg4).trans hc1
      have e2 := (hB3.cell (p := ⟨g2', j * 2 + 1, none⟩) hg4).trans hc2
      have hgl : g2' < wr.heap.size := by omega
      have hyz : y.1.size ≤ 40 := by rw [← txt_len, ht1]; omega
      obtain ⟨hb1, hb2, hb3⟩ := mk_bounds hok
      have HNEW : Hid (∀ r e', ExOk r it.pat → ExOk e' (chainL .none (its.drop (j + 1))) → ExOk (r.thn' e') (chainL .none (its.drop j))) := by
        intro r e' h1 h2
        rw [drop_item hit]
        exact ExOk.cons h1 h2
      have HREP : Hid (∀ x, ExOk x it.q → ExOk (x.repd it.m.lo it.m.hi) it.pat) := fun x hx => hx.rep hok
      have HTM := fun w => rtimes_ok it.m y.2 w hok ht2
      obtain ⟨lo, HLO⟩ : ∃ x, Hid (it.m.lo = x) := ⟨_, rfl⟩
      obtain ⟨hi, HHI⟩ : ∃ x, Hid (it.m.hi = x) := ⟨_, rfl⟩
      rw [HLO.out] at HTM hb1 hb3 HREP
      rw [HHI.out] at HTM hb2 hb3 HREP
      have HAT := HA y.1 it.la it.q
      clear hc1 hc2 hjj hy hit hok HLO HHI
      obtain ⟨y1, y2⟩ := y
      simp only at HAT HTM e1 e2 hyz ht1
      rcases HAT wr hyz hA ht1 with ⟨hp1, hne, HC⟩ | ⟨h40, hp2, _⟩
      · have hce := byteAt_eq (s := y1) (a := 0) (by omega)
        have t40 : ((y1[0].toNat : Int) == 40) = false := by rw [← hce]; simp only [beq_eq_false_iff_ne, ne_eq]; omega
        have hp1' : 0 < y1.size := by omega
        clear hce hne HAT hA ht1
        go_wp2_with fail
        refine HC.mono ?_
        clear HC
        rintro e w4 ⟨g4, X, rfl, hE4, hX, hB4⟩
        have hsz4 := hB4.size
        have f2 := (hB4.cell (p := ⟨g2', j * 2 + 1, none⟩) hgl).trans e2
        have hE3' := hE3.below hB4
        have HX : Hid (ExOk X it.q) := hX
        have hB14 : Below w1.heap.size w1 w4 := hB3.trans (hB4.mono (by omega))
        clear e1 e2 hE3 hB3 hX
        have HC := HTM w4
        go_wp2_with fail
        refine HC.mono ?_
        clear HC
        rintro e w5 ⟨rfl, hB5⟩
        have hsz5 := hB5.size
        have HC := rrepeated_ok g4 lo hi X w5 (hE4.below hB5) hb1 hb2 hb3
        have hE3'' := hE3'.below hB5
        have hB15 : Below w1.heap.size w1 w5 := hB14.trans (hB5.mono (by omega))
        clear f2 hE4 hE3' hB14 hB5
        go_wp2_with fail
        refine HC.mono ?_
        clear HC
        rintro e w6 ⟨g6, rfl, hE6, hB6⟩
        have hsz6 := hB6.size
        have HC := rthen_ok g6 g3 (X.repd lo hi) E w6 hE6 (hE3''.below hB6)
        have hB16 : Below w1.heap.size w1 w6 := hB15.trans (hB6.mono (by omega))
        have HNW : Hid (ExOk ((X.repd lo hi).thn' E) (chainL .none (its.drop j))) := HNEW.out _ _ (HREP.out X HX.out) HEO.out
        clear hE6 hE3'' hB15 hB6
        go_wp2_with fail
        refine HC.mono ?_
        clear HC
        rintro e w7 ⟨g7, rfl, hE7, hB7⟩
        have hB17 : Below w1.heap.size w1 w7 := hB16.trans (hB7.mono (by omega))
        clear hB16 hB7
        go_wp2_with fail
        go_roundw
        case rel => exact ⟨j, g7, _, by omega, rfl, rfl, hE7, HNW, hB17⟩
        case measure => simp [intOf] <;> omega
      · have hce := byteAt_eq (s := y1) (a := 0) (by omega)
        have t40 : ((y1[0].toNat : Int) == 40) = true := by rw [← hce, h40]; rfl
        have hp1' : 0 < y1.size := by omega
        rcases HAT wr.drew hyz hA ht1 with ⟨_, hne, _⟩ | ⟨_, _, HC⟩
        · exact absurd h40 hne
        obtain ⟨ye, HYE⟩ : ∃ z, Hid (y1.size - 1 = z) := ⟨_, rfl⟩
        have hwy : IntKind.i64.wrap (ye : Int) = (ye : Int) := by rw [← HYE.out, IntKind.wrap_i64]; omega
        have hwy2 : ((y1.size : Int) - 1) = (ye : Int) := by rw [← HYE.out]; omega
        rw [HYE.out] at HC
        have hy3 : 1 ≤ ye := by rw [← HYE.out]; omega
        have hy4 : ye ≤ y1.size := by rw [← HYE.out]; omega
        clear hce h40 HAT hA ht1
        go_wp2_with fail
        go_region_with (go_at_call 73; refine HC.mono ?_; rintro e w4 ⟨g4, X, rfl, hE4, hX, hB4'⟩; have hB4 : Below wr.heap.size wr w4 := (Below.refl wr.heap.size wr).drew.trans hB4'; clear hB4')
        all_goals
          have hsz4 := hB4.size
          have f2 := (hB4.cell (p := ⟨g2', j * 2 + 1, none⟩) hgl).trans e2
          have hE3' := hE3.below hB4
          have HX : Hid (ExOk X it.q) := hX
          have hB14 : Below w1.heap.size w1 w4 := hB3.trans (hB4.mono (by omega))
          clear e1 e2 hE3 hB3 hX
          have HC := HTM w4
          go_wp2_with fail
          refine HC.mono ?_
          clear HC
          rintro e w5 ⟨rfl, hB5⟩
          have hsz5 := hB5.size
          have HC := rrepeated_ok g4 lo hi X w5 (hE4.below hB5) hb1 hb2 hb3
          have hE3'' := hE3'.below hB5
          have hB15 : Below w1.heap.size w1 w5 := hB14.trans (hB5.mono (by omega))
          clear f2 hE4 hE3' hB14 hB5
          go_wp2_with fail
          refine HC.mono ?_
          clear HC
          rintro e w6 ⟨g6, rfl, hE6, hB6⟩
          have hsz6 := hB6.size
          have HC := rthen_ok g6 g3 (X.repd lo hi) E w6 hE6 (hE3''.below hB6)
          have hB16 : Below w1.heap.size w1 w6 := hB15.trans (hB6.mono (by omega))
          have HNW : Hid (ExOk ((X.repd lo hi).thn' E) (chainL .none (its.drop j))) := HNEW.out _ _ (HREP.out X HX.out) HEO.out
          clear hE6 hE3'' hB15 hB6
          go_wp2_with fail
          refine HC.mono ?_
          clear HC
          rintro e w7 ⟨g7, rfl, hE7, hB7⟩
          have hB17 : Below w1.heap.size w1 w7 := hB16.trans (hB7.mono (by omega))
          clear hB16 hB7
          go_wp2_with fail
          go_roundw
          case rel => exact ⟨j, g7, _, by omega, rfl, rfl, hE7, HNW, hB17⟩
          case measure => simp [intOf] <;> omega
set_option maxRecDepth 20000 in
set_option maxHeartbeats 8000000 in
theorem rmeaning_step (k : Nat) (HA : AtomM k) : MeanM k := by
  intro s p w hs hP
  obtain ⟨x, xs, hPP⟩ := hP.parts
  have HC := rseqs_ok s w hs
  unfold SeqsPost at HC
  rw [hPP.split] at HC
  have HPP : Hid (PatParts k s p x xs) := hPP
  obtain ⟨nl, HNL⟩ : ∃ n, Hid ((x :: xs).length = n) := ⟨_, rfl⟩
  have HPAT : Hid (p = altL x.2 xs) := hPP.pat
  clear hPP hP
  go_enter Tryz.func73, Tryz.ntmps73
  go_wp2_with fail
  refine HC.mono ?_
  clear HC
  rintro e w1 ⟨v, Ls, rfl, hL, hown, hB1, hLl⟩
  obtain ⟨ao, cap, rfl, _⟩ := ownsRow_shape hown
  have hLn : Ls.length = nl := by have := congrArg List.length hL; simp only [List.length_map] at this; rw [this]; exact HNL.out
  have HL : Hid (Ls.map txt = (x :: xs).map (·.1)) := hL
  have HOWN : Hid (w1.ownsRow w.heap.size 9 1 (.slice ao Ls.length cap) Ls.length (strs Ls)) := hown
  have hnl : nl ≤ 41 := by omega
  have hnl1 : 1 ≤ nl := by rw [← HNL.out]; simp
  have hsz1 := hB1.size
  have HSQ : Hid (∀ i, i < nl → ∃ (y : ByteArray) (g : Nat), ao = some ⟨g, 0, none⟩ ∧ g < w1.heap.size ∧ w1.cell? ⟨g, i, none⟩ = some (.string y) ∧ ∀ w', Calls Tryz.prog 118 #[.string y] w' (MPost ((x :: xs).getD i ([], .none)).2 w')) := by
    intro i hi
    obtain ⟨y, its, hy, hys, hyt, hits, hpat⟩ := HPP.out.one HL.out (i := i) (by rw [HNL.out]; exact hi)
    obtain ⟨g, hg, _, _, hg2, hc⟩ := strs_cell HOWN.out hy
    refine ⟨y, g, hg, hg2, hc, fun w' => ?_⟩
    rw [hpat]
    exact rsequence_ok k HA y its w' (by omega) hits hyt
  rw [hLn]
  clear hL hown hLl hLn HL HOWN
  obtain ⟨y0, g0, rfl, hg0, hc0, HC0⟩ := HSQ.out 0 (by omega)
  have HC := HC0 w1
  simp only [List.getD_cons_zero] at HC
  clear HC0
  go_wp2_with fail
  refine HC.mono ?_
  clear HC
  rintro e w2 ⟨g2, E2, rfl, hE2, hX2, hB2⟩
  have HSX : Hid (∀ i, 1 ≤ i → i < nl → ∃ q, xs[i - 1]? = some q ∧ ((x :: xs).getD i ([], .none)).2 = q.2) := by
    intro i h1 h2
    have h3 : i - 1 < xs.length := by have := HNL.out; simp at this; omega
    refine ⟨xs[i - 1], by rw [List.getElem?_eq_getElem h3], ?_⟩
    obtain ⟨i, rfl⟩ : ∃ m, i = m + 1 := ⟨i - 1, by omega⟩
    rw [List.getD_cons_succ, List.getD_eq_getElem?_getD, List.getElem?_eq_getElem (by simpa using h3)]
    rfl
  clear hc0
  go_wp2_with fail
  go_loopw [4, 5, 6] (fun v' i' _ wr => ∃ (i g : Nat) (E : Ex), 1 ≤ i ∧ i ≤ nl ∧ v' = .pointer (some ⟨g, 0, none⟩) ∧ i' = .int .i64 (i : Int) ∧ ExAt wr g E ∧ Hid (ExOk E (altL x.2 (xs.take (i - 1)))) ∧ Below w1.heap.size w1 wr) (fun _ i' _ _ => 100 - (intOf i').toNat)
  case atStart => exact ⟨1, g2, E2, Nat.le_refl _, hnl1, rfl, rfl, hE2, hX2, hB2⟩
  case round =>
    clear hE2 hX2 hB2
    obtain ⟨i, g3, E, hi1, hi2, rfl, rfl, hE3, HEO, hB3⟩ := hrel
    have hsz3 := hB3.size
    by_cases hlt : i < nl
    · have hlt2 : (i : Int) < (nl : Int) := by omega
      obtain ⟨y, g, hg, hg2', hc, HC0⟩ := HSQ.out i hlt
      simp only [Option.some.injEq, Addr.mk.injEq] at hg
      obtain ⟨rfl, _⟩ := hg
      obtain ⟨q, hq1, hq2⟩ := HSX.out i hi1 hlt
      rw [hq2] at HC0
      have HC := HC0 wr
      have c0 := (hB3.cell (p := ⟨g0, i, none⟩) hg0).trans hc
      have HNW : Hid (∀ X, ExOk X q.2 → ExOk (E.alt' X) (altL x.2 (xs.take (i + 1 - 1)))) := by
        intro X hX
        have e1 : xs.take (i + 1 - 1) = xs.take (i - 1) ++ [q] := by
          rw [show i + 1 - 1 = (i - 1) + 1 by omega, List.take_add_one, hq1]; rfl
        rw [e1]
        unfold altL
        rw [List.foldl_append]
        exact ExOk.alt HEO.out hX
      clear hq1 hq2 HC0 hc hg2' HEO
      go_wp2_with fail
      refine HC.mono ?_
      clear HC
      rintro e w4 ⟨g4, X, rfl, hE4, hX, hB4⟩
      have hsz4 := hB4.size
      have HC := reither_ok g3 g4 E X w4 (hE3.below hB4) hE4
      have hB14 : Below w1.heap.size w1 w4 := hB3.trans (hB4.mono (by omega))
      have HX : Hid (ExOk (E.alt' X) (altL x.2 (xs.take (i + 1 - 1)))) := HNW.out X hX
      clear c0 hE3 hB3 hB4 hX hE4
      go_wp2_with fail
      refine HC.mono ?_
      clear HC
      rintro e w5 ⟨g5, rfl, hE5, hB5⟩
      have hB15 : Below w1.heap.size w1 w5 := hB14.trans (hB5.mono (by omega))
      clear hB14 hB5
      go_wp2_with fail
      go_roundw
      case rel => exact ⟨i + 1, g5, _, by omega, by omega, rfl, by go_num, hE5, HX, hB15⟩
      case measure => simp [intOf] <;> omega
    · have hlt2 : ¬ (i : Int) < (nl : Int) := by omega
      obtain rfl : i = nl := by omega
      have HE : Hid (ExAt wr g3 E) := hE3
      have HEO2 : Hid (ExOk E p) := by
        unfold Hid
        rw [HPAT.out]
        have := HEO.out
        rw [List.take_of_length_le (by have := HNL.out; simp at this; omega)] at this
        exact this
      have hB : Below w.heap.size w wr := hB1.trans (hB3.mono (by omega))
      clear hE3 HEO hB3
      go_wp2_with fail
      go_ret
      exact ⟨g3, E, rfl, HE.out, HEO2.out, hB⟩
theorem meaning_c : ∀ k, MeanM k
  | 0 => rmeaning_step 0 atomM_zero
  | k + 1 => rmeaning_step (k + 1) (atomM_succ k (meaning_c k))
end Go.Proofs.YtpngikmcjkjdaaaGreatDoor
namespace Go.Proofs.YtpngikmcjkjdaaaGreatDoor
open Go.RowKit
set_option linter.unusedVariables false
set_option linter.unusedSimpArgs false
theorem place_stuck {s : ByteArray} {r : Int} {a : Nat} (h : PlaceIs s r) (ha : Stuck s a) : r = (a : Int) := by
  rcases h with ⟨b, hb, rfl⟩ | ⟨q, h1, h2, rfl⟩
  · rw [ha.uniq hb]
  · exact (ha.not_whole h1 h2).elim
theorem place_whole {s : ByteArray} {r : Int} {p : Pat} {t : Sp} (h : PlaceIs s r) (hp : parseF s = .ok p t) (he : t.a = s.size) : r = -1 := by
  obtain ⟨q, g, hq⟩ := parse_whole hp he
  rcases h with ⟨b, hb, rfl⟩ | ⟨q, h1, h2, rfl⟩
  · exact (hb.not_whole (he ▸ g.at_) hq).elim
  · rfl
def BackIs (s : ByteArray) (r : Int) : Prop := (∃ i : Nat, r = (i : Int) ∧ Bk s i = true ∧ ∀ j, j < i → Bk s j = false) ∨ (r = -1 ∧ ∀ j, Bk s j = false)
theorem back_yes {s : ByteArray} {r : Int} {p : Pat} {t : Sp} (h : BackIs s r) (hp : parseF s = .ok p t) (he : t.a = s.size) (hb : t.bk = true) : r = (t.sp : Int) := by
  obtain ⟨q, g, hq⟩ := parse_whole hp he
  obtain ⟨h1, h2⟩ := g.yes hb
  rcases h with ⟨i, rfl, h3, h4⟩ | ⟨rfl, h3⟩
  · have : i = t.sp := by
      rcases Nat.lt_trichotomy i t.sp with h | h | h
      · rw [h2 i h] at h3; cases h3
      · exact h
      · rw [h4 _ h] at h1; cases h1
    rw [this]
  · rw [h3] at h1; cases h1
theorem back_no {s : ByteArray} {r : Int} {p : Pat} {t : Sp} (h : BackIs s r) (hp : parseF s = .ok p t) (he : t.a = s.size) (hb : t.bk = false) : r = -1 := by
  obtain ⟨q, g, hq⟩ := parse_whole hp he
  rcases h with ⟨i, rfl, h3, h4⟩ | ⟨rfl, _⟩
  · exfalso
    by_cases hi : i + 1 < s.size
    · rw [g.no hb i (by omega)] at h3; cases h3
    · unfold Bk at h3
      rw [show decide (i + 2 < s.size) = false by simp; omega] at h3
      simp at h3
  · rfl
theorem compErr_cases {s : ByteArray} {b : Int} {er : Int} {pl : Nat} (h : compErr s b = some (er, pl)) :
    (40 < s.size ∧ er = 1 ∧ pl = 0) ∨ (s.size ≤ 40 ∧ Stuck s pl ∧ er = 2) ∨
    (s.size ≤ 40 ∧ ∃ p t, parseF s = .ok p t ∧ t.a = s.size ∧ ((t.bk = true ∧ er = 3 ∧ pl = t.sp) ∨ (t.bk = false ∧ 10 < p.size ∧ er = 4 ∧ pl = 0) ∨ (t.bk = false ∧ p.size ≤ 10 ∧ (b < 1 ∨ 40 < b) ∧ er = 8 ∧ pl = 0))) := by
  unfold compErr at h
  split at h
  · rename_i h0
    simp at h
    exact .inl ⟨h0, h.1.symm, h.2.symm⟩
  · rename_i h0
    cases hp : parseF s with
    | no t =>
      rw [hp] at h
      simp at h
      exact .inr (.inl ⟨by omega, h.2 ▸ parse_no hp, h.1.symm⟩)
    | ok p t =>
      rw [hp] at h
      simp only at h
      split at h
      · rename_i h1
        simp at h
        exact .inr (.inl ⟨by omega, h.2 ▸ parse_short hp h1, h.1.symm⟩)
      · rename_i h1
        refine .inr (.inr ⟨by omega, p, t, rfl, by omega, ?_⟩)
        split at h
        · rename_i h2
          simp at h
          exact .inl ⟨h2, h.1.symm, h.2.symm⟩
        · rename_i h2
          have h2' : t.bk = false := by simpa using h2
          split at h
          · rename_i h3
            simp at h
            exact .inr (.inl ⟨h2', h3, h.1.symm, h.2.symm⟩)
          · rename_i h3
            split at h
            · rename_i h4
              simp at h
              exact .inr (.inr ⟨h2', by omega, h4, h.1.symm, h.2.symm⟩)
            · simp at h
theorem ex_lang {E : Ex} {p : Pat} (h : ExOk E p) (x : List Nat) (hx : Notes x) : E.lang x ↔ patL p x = true := by
  rw [patL_iff, h.lang x, norm_lang p x hx]
end Go.Proofs.YtpngikmcjkjdaaaGreatDoor
namespace Go.Proofs.YtpngikmcjkjdaaaGreatDoor
open Go.RowKit
set_option linter.unusedVariables false
set_option linter.unusedSimpArgs false
set_option maxRecDepth 20000 in
set_option maxHeartbeats 2000000 in
theorem rempty_ok (e : Ex) : ∀ (g : Nat) (w : World), ExAt w g e → Calls Tryz.prog 151 #[.pointer (some ⟨g, 0, none⟩)] w fun r w' => r = .returned (.bool e.empty) ∧ w = w' := by
  induction e with
  | nil =>
    intro g w h
    have k0 := h.kind
    simp only [Ex.kind, show ((0 : Nat) : Int) = 0 from rfl] at k0
    go_enter Tryz.func151, Tryz.ntmps151
    go_wp2_with fail
    go_ret
    exact ⟨rfl, rfl⟩
  | one S =>
    intro g w h
    have k0 := h.kind
    simp only [Ex.kind, show ((1 : Nat) : Int) = 1 from rfl] at k0
    go_enter Tryz.func151, Tryz.ntmps151
    go_wp2_with fail
    go_ret
    exact ⟨rfl, rfl⟩
  | star a _ =>
    intro g w h
    have k0 := h.kind
    simp only [Ex.kind, show ((4 : Nat) : Int) = 4 from rfl] at k0
    go_enter Tryz.func151, Tryz.ntmps151
    go_wp2_with fail
    go_ret
    exact ⟨rfl, rfl⟩
  | thn a b iha ihb =>
    intro g w h
    have k0 := h.kind
    simp only [Ex.kind, show ((2 : Nat) : Int) = 2 from rfl] at k0
    obtain ⟨ga, gb, h1, h2, h3⟩ := h
    obtain ⟨c9, c10⟩ := exC_cells h1
    unfold ptr at c9 c10
    have HA := iha ga w h2
    have HB := ihb gb w h3
    simp only [Ex.empty]
    obtain ⟨ea, HEA⟩ : ∃ x, Hid (a.empty = x) := ⟨_, rfl⟩
    obtain ⟨eb, HEB⟩ : ∃ x, Hid (b.empty = x) := ⟨_, rfl⟩
    rw [HEA.out] at HA ⊢
    rw [HEB.out] at HB ⊢
    clear iha ihb h1 h2 h3
    go_enter Tryz.func151, Tryz.ntmps151
    go_wp2_with fail
    refine HA.mono ?_
    rintro e w1 ⟨rfl, rfl⟩
    go_wp2_with fail
    refine HB.mono ?_
    rintro e w1 ⟨rfl, rfl⟩
    cases ea <;> (go_wp2_with fail; go_ret; exact ⟨rfl, rfl⟩)
  | alt a b iha ihb =>
    intro g w h
    have k0 := h.kind
    simp only [Ex.kind, show ((3 : Nat) : Int) = 3 from rfl] at k0
    obtain ⟨ga, gb, h1, h2, h3⟩ := h
    obtain ⟨c9, c10⟩ := exC_cells h1
    unfold ptr at c9 c10
    have HA := iha ga w h2
    have HB := ihb gb w h3
    simp only [Ex.empty]
    obtain ⟨ea, HEA⟩ : ∃ x, Hid (a.empty = x) := ⟨_, rfl⟩
    obtain ⟨eb, HEB⟩ : ∃ x, Hid (b.empty = x) := ⟨_, rfl⟩
    rw [HEA.out] at HA ⊢
    rw [HEB.out] at HB ⊢
    clear iha ihb h1 h2 h3
    go_enter Tryz.func151, Tryz.ntmps151
    go_wp2_with fail
    refine HA.mono ?_
    rintro e w1 ⟨rfl, rfl⟩
    go_wp2_with fail
    refine HB.mono ?_
    rintro e w1 ⟨rfl, rfl⟩
    cases ea <;> (go_wp2_with fail; go_ret; exact ⟨rfl, rfl⟩)
def Ex.nb (e : Ex) : ByteArray := ⟨e.nm.toArray⟩
theorem lsb_nb (e : Ex) : lsb e.nb = e.nm := by simp [lsb, Ex.nb]
theorem nb_size (e : Ex) : e.nb.size = e.nm.length := by rw [← lsb_size, lsb_nb]
theorem lsb_app (a b : ByteArray) : lsb (a ++ b) = lsb a ++ lsb b := by simp [lsb]
theorem nb_star (a : Ex) : (Ex.star a).nb = (⟨#[40]⟩ ++ a.nb) ++ ⟨#[41, 42]⟩ := by
  apply lsb_inj; rw [lsb_app, lsb_app, lsb_nb, lsb_nb]; rfl
theorem nb_thn (a b : Ex) : (Ex.thn a b).nb = ((⟨#[40]⟩ ++ a.nb) ++ ⟨#[44]⟩ ++ b.nb) ++ ⟨#[41]⟩ := by
  apply lsb_inj; rw [lsb_app, lsb_app, lsb_app, lsb_app, lsb_nb, lsb_nb, lsb_nb]; simp [Ex.nm, lsb]
theorem nb_alt (a b : Ex) : (Ex.alt a b).nb = ((⟨#[40]⟩ ++ a.nb) ++ ⟨#[124]⟩ ++ b.nb) ++ ⟨#[41]⟩ := by
  apply lsb_inj; rw [lsb_app, lsb_app, lsb_app, lsb_app, lsb_nb, lsb_nb, lsb_nb]; simp [Ex.nm, lsb]
def NmC (e : Ex) : Prop := ∀ (g : Nat) (w : World), ExAt w g e → e.nm.length ≤ 2 ^ 60 → Calls Tryz.prog 150 #[.pointer (some ⟨g, 0, none⟩)] w fun r w' => r = .returned (.string e.nb) ∧ Below w.heap.size w w'
set_option maxRecDepth 20000 in
set_option maxHeartbeats 2000000 in
theorem rname_nil : NmC .nil := by
  intro g w h hn
  have k0 := h.kind
  simp only [Ex.kind, show ((0 : Nat) : Int) = 0 from rfl] at k0
  have e0 : (Ex.nil).nb = ⟨#[45]⟩ := rfl
  rw [e0]
  clear hn
  go_enter Tryz.func150, Tryz.ntmps150
  go_wp2_with fail
  go_ret
  exact ⟨rfl, Below.refl _ _⟩
set_option maxRecDepth 20000 in
set_option maxHeartbeats 2000000 in
theorem rname_star (a : Ex) (iha : NmC a) : NmC (.star a) := by
  intro g w h hn
  have k0 := h.kind
  simp only [Ex.kind, show ((4 : Nat) : Int) = 4 from rfl] at k0
  obtain ⟨ga, h1, h2⟩ := h
  obtain ⟨c9, c10⟩ := exC_cells h1
  unfold ptr at c9
  rw [star_len] at hn
  have HA := iha ga w h2 (by omega)
  have hz : a.nb.size ≤ 2 ^ 60 := by rw [nb_size]; omega
  rw [nb_star]
  obtain ⟨b, HB⟩ : ∃ b, Hid (a.nb = b) := ⟨_, rfl⟩
  rw [HB.out] at HA hz ⊢
  clear iha h1 h2 hn HB
  go_enter Tryz.func150, Tryz.ntmps150
  go_wp2_with fail
  refine HA.mono ?_
  rintro e w1 ⟨rfl, hB⟩
  go_wp2_with fail
  go_ret
  exact ⟨rfl, hB⟩
set_option maxRecDepth 20000 in
set_option maxHeartbeats 4000000 in
theorem rname_thn (a b : Ex) (iha : NmC a) (ihb : NmC b) : NmC (.thn a b) := by
  intro g w h hn
  have k0 := h.kind
  simp only [Ex.kind, show ((2 : Nat) : Int) = 2 from rfl] at k0
  obtain ⟨ga, gb, h1, h2, h3⟩ := h
  obtain ⟨c9, c10⟩ := exC_cells h1
  have hg := heap_lt h1
  unfold ptr at c9 c10
  rw [thn_len] at hn
  have HU : ∀ w', Below w.heap.size w w' → Calls Tryz.prog 150 #[.pointer (some ⟨ga, 0, none⟩)] w' fun r w'' => r = .returned (.string a.nb) ∧ Below w.heap.size w w'' := fun w' hb => (iha ga w' (h2.below hb) (by omega)).mono (fun e w'' h => ⟨h.1, hb.trans (h.2.mono hb.size)⟩)
  have HV : ∀ w', Below w.heap.size w w' → Calls Tryz.prog 150 #[.pointer (some ⟨gb, 0, none⟩)] w' fun r w'' => r = .returned (.string b.nb) ∧ Below w.heap.size w w'' := fun w' hb => (ihb gb w' (h3.below hb) (by omega)).mono (fun e w'' h => ⟨h.1, hb.trans (h.2.mono hb.size)⟩)
  have hz : a.nb.size ≤ 2 ^ 60 := by rw [nb_size]; omega
  have hz2 : b.nb.size ≤ 2 ^ 60 := by rw [nb_size]; omega
  rw [nb_thn]
  obtain ⟨x, HX⟩ : ∃ x, Hid (a.nb = x) := ⟨_, rfl⟩
  obtain ⟨y, HY⟩ : ∃ x, Hid (b.nb = x) := ⟨_, rfl⟩
  rw [HX.out] at HU hz ⊢
  rw [HY.out] at HV hz2 ⊢
  have n1 : ¬ 9223372036854775807 < 1 + x.size := by omega
  have n2 : ¬ 9223372036854775807 < 1 + x.size + 1 := by omega
  have n3 : ¬ 9223372036854775807 < 1 + x.size + 1 + y.size := by omega
  have n4 : ¬ 9223372036854775807 < 1 + x.size + 1 + y.size + 1 := by omega
  clear iha ihb h1 h2 h3 hn HX HY
  go_enter Tryz.func150, Tryz.ntmps150
  go_wp2_with fail
  go_region_held3 (fun w' => w'.cell? ⟨g, 9, none⟩ = some (.pointer (some ⟨ga, 0, none⟩)) ∧ w'.cell? ⟨g, 10, none⟩ = some (.pointer (some ⟨gb, 0, none⟩))) (go_keep)
    (first
      | (go_at_call_of 150 ga; refine Calls.mono (HU _ ((Below.refl w.heap.size w).drew)) ?_; rintro e w1 ⟨rfl, hB1⟩; have d9 := (hB1.cell (p := ⟨g, 9, none⟩) hg).trans c9; have d10 := (hB1.cell (p := ⟨g, 10, none⟩) hg).trans c10; have HV1 := HV _ hB1; clear HU HV)
      | (go_at_call_of 150 gb; refine Calls.mono HV1 ?_; rintro e w2 ⟨rfl, hB2⟩; have d9' := (hB2.cell (p := ⟨g, 9, none⟩) hg).trans c9; have d10' := (hB2.cell (p := ⟨g, 10, none⟩) hg).trans c10; clear HV1))
  all_goals
    go_wp2_with fail
    go_ret
    exact ⟨rfl, hB2⟩
set_option maxRecDepth 20000 in
set_option maxHeartbeats 4000000 in
theorem rname_alt (a b : Ex) (iha : NmC a) (ihb : NmC b) : NmC (.alt a b) := by
  intro g w h hn
  have k0 := h.kind
  simp only [Ex.kind, show ((3 : Nat) : Int) = 3 from rfl] at k0
  obtain ⟨ga, gb, h1, h2, h3⟩ := h
  obtain ⟨c9, c10⟩ := exC_cells h1
  have hg := heap_lt h1
  unfold ptr at c9 c10
  rw [alt_len] at hn
  have HU : ∀ w', Below w.heap.size w w' → Calls Tryz.prog 150 #[.pointer (some ⟨ga, 0, none⟩)] w' fun r w'' => r = .returned (.string a.nb) ∧ Below w.heap.size w w'' := fun w' hb => (iha ga w' (h2.below hb) (by omega)).mono (fun e w'' h => ⟨h.1, hb.trans (h.2.mono hb.size)⟩)
  have HV : ∀ w', Below w.heap.size w w' → Calls Tryz.prog 150 #[.pointer (some ⟨gb, 0, none⟩)] w' fun r w'' => r = .returned (.string b.nb) ∧ Below w.heap.size w w'' := fun w' hb => (ihb gb w' (h3.below hb) (by omega)).mono (fun e w'' h => ⟨h.1, hb.trans (h.2.mono hb.size)⟩)
  have hz : a.nb.size ≤ 2 ^ 60 := by rw [nb_size]; omega
  have hz2 : b.nb.size ≤ 2 ^ 60 := by rw [nb_size]; omega
  rw [nb_alt]
  obtain ⟨x, HX⟩ : ∃ x, Hid (a.nb = x) := ⟨_, rfl⟩
  obtain ⟨y, HY⟩ : ∃ x, Hid (b.nb = x) := ⟨_, rfl⟩
  rw [HX.out] at HU hz ⊢
  rw [HY.out] at HV hz2 ⊢
  have n1 : ¬ 9223372036854775807 < 1 + x.size := by omega
  have n2 : ¬ 9223372036854775807 < 1 + x.size + 1 := by omega
  have n3 : ¬ 9223372036854775807 < 1 + x.size + 1 + y.size := by omega
  have n4 : ¬ 9223372036854775807 < 1 + x.size + 1 + y.size + 1 := by omega
  clear iha ihb h1 h2 h3 hn HX HY
  go_enter Tryz.func150, Tryz.ntmps150
  go_wp2_with fail
  go_region_held3 (fun w' => w'.cell? ⟨g, 9, none⟩ = some (.pointer (some ⟨ga, 0, none⟩)) ∧ w'.cell? ⟨g, 10, none⟩ = some (.pointer (some ⟨gb, 0, none⟩))) (go_keep)
    (first
      | (go_at_call_of 150 ga; refine Calls.mono (HU _ ((Below.refl w.heap.size w).drew)) ?_; rintro e w1 ⟨rfl, hB1⟩; have d9 := (hB1.cell (p := ⟨g, 9, none⟩) hg).trans c9; have d10 := (hB1.cell (p := ⟨g, 10, none⟩) hg).trans c10; have HV1 := HV _ hB1; clear HU HV)
      | (go_at_call_of 150 gb; refine Calls.mono HV1 ?_; rintro e w2 ⟨rfl, hB2⟩; have d9' := (hB2.cell (p := ⟨g, 9, none⟩) hg).trans c9; have d10' := (hB2.cell (p := ⟨g, 10, none⟩) hg).trans c10; clear HV1))
  all_goals
    go_wp2_with fail
    go_ret
    exact ⟨rfl, hB2⟩
theorem setL_nb (S : Nat → Bool) : (Ex.one S).nb = ⟨(91 :: setL S 8).toArray⟩ ++ ⟨#[93]⟩ := by
  apply lsb_inj; rw [lsb_app, lsb_nb]; simp [Ex.nm, lsb]
def setB (S : Nat → Bool) (c : Nat) : ByteArray := ⟨(91 :: setL S c).toArray⟩
theorem setB_size (S : Nat → Bool) (c : Nat) : (setB S c).size ≤ 1 + c := by
  have := setL_len S c
  show (91 :: setL S c).toArray.size ≤ 1 + c
  simp; omega
theorem setB_no {S : Nat → Bool} {c : Nat} (h : S c = false) : setB S (c + 1) = setB S c := by simp [setB, setL, h]
theorem setB_yes {S : Nat → Bool} {c : Nat} (h : S c = true) : setB S (c + 1) = setB S c ++ ⟨#[noteB c]⟩ := by
  apply lsb_inj; rw [lsb_app]; simp [setB, setL, h, lsb, noteB]
set_option maxRecDepth 20000 in
set_option maxHeartbeats 4000000 in
theorem rname_one (S : Nat → Bool) : NmC (.one S) := by
  intro g w h hn
  have k0 := h.kind
  simp only [Ex.kind, show ((1 : Nat) : Int) = 1 from rfl] at k0
  have hg := h.lt
  have hS : ∀ c, c < 8 → w.cell? ⟨g, 1 + c, none⟩ = some (.bool (S c)) := fun c hc => (exC_set h hc).1
  have s0 : setB S 0 = ⟨#[91]⟩ := rfl
  have HE : Hid ((Ex.one S).nb = setB S 8 ++ ⟨#[93]⟩) := setL_nb S
  have hnb : (Ex.one S).nb = setB S 8 ++ ⟨#[93]⟩ := HE.out
  rw [hnb]
  have hz8 := setB_size S 8
  clear h hn HE hnb
  go_enter Tryz.func150, Tryz.ntmps150
  go_wp2_with fail
  go_loopw [3, 4] (fun s' i' wr => ∃ c : Nat, c ≤ 8 ∧ s' = .string (setB S c) ∧ i' = .int .i64 (c : Int) ∧ Below w.heap.size w wr) (fun _ i' _ => 8 - (intOf i').toNat)
  case atStart => exact ⟨0, by omega, by rw [s0], rfl, Below.refl _ _⟩
  case round =>
    obtain ⟨c, hc, rfl, rfl, hB⟩ := hrel
    by_cases hc8 : c < 8
    · have hz := setB_size S c
      have c1 := (hB.cell (p := ⟨g, 1 + c, none⟩) hg).trans (hS c hc8)
      cases hs : S c
      · rw [hs] at c1
        have HN : Hid (setB S (c + 1) = setB S c) := setB_no hs
        clear hs hS
        go_wp2_with fail
        go_roundw
        case rel => exact ⟨c + 1, by omega, by rw [HN.out], by go_num, hB⟩
        case measure => simp [intOf]; omega
      · rw [hs] at c1
        have HN : Hid (setB S (c + 1) = setB S c ++ ⟨#[noteB c]⟩) := setB_yes hs
        have hcv : Sem.run Tryz.prog (convert 110 9 (.slice (some ⟨wr.heap.size, 0, none⟩) 1 1)) (wr.alloc (.cells #[.int .u8 (97 + (c : Int))] 5)) = .ok (.string ⟨#[noteB c]⟩) (wr.alloc (.cells #[.int .u8 (97 + (c : Int))] 5)) := conv_note c hc8 wr
        have h97 : IntKind.u8.wrap (IntKind.i64.wrap (97 + (c : Int))) = 97 + (c : Int) := by rw [IntKind.wrap_i64, IntKind.wrap_u8]; omega
        have h97' : IntKind.u8.wrap (97 + (c : Int)) = 97 + (c : Int) := by rw [IntKind.wrap_u8]; omega
        clear hs hS
        go_wp2_with fail
        go_roundw
        case rel => exact ⟨c + 1, by omega, by rw [HN.out], by go_num, hB.alloc hB.size _⟩
        case measure => simp [intOf]; omega
    · obtain rfl : c = 8 := by omega
      clear hS
      go_wp2_with fail
      go_ret
      exact ⟨rfl, hB⟩
theorem rname_ok (e : Ex) : NmC e := by
  induction e with
  | nil => exact rname_nil
  | one S => exact rname_one S
  | star a iha => exact rname_star a iha
  | thn a b iha ihb => exact rname_thn a b iha ihb
  | alt a b iha ihb => exact rname_alt a b iha ihb
end Go.Proofs.YtpngikmcjkjdaaaGreatDoor
