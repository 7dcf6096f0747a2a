import Derived.OpenShut
import Derived.Test.YtpngikmcjkjdaabG13
set_option linter.unusedVariables false
set_option linter.unusedSimpArgs false
namespace Go.Proofs.Ytpngikmcjkjdaab
open Go.RowKit
set_option linter.unusedVariables false
set_option linter.unusedSimpArgs false
structure BoxK (w : World) (b : Nat) (V : Lay) (M : Tab) : Prop where
  blk : w.heap[b]? = some (.cells #[.slice (some ⟨V.ba, V.oa, none⟩) M.n V.ca, .slice (some ⟨V.bn, V.on, none⟩) M.n V.cn] 30 (0, 0))
  tab : TabAt w V M
theorem BoxK.below {w w' : World} {b : Nat} {V : Lay} {M : Tab} (h : BoxK w b V M) (hb : Below w.heap.size w w') : BoxK w' b V M :=
  ⟨by rw [hb.block _ (heap_lt h.blk)]; exact h.blk, h.tab.below hb⟩
theorem BoxK.new {w : World} {V : Lay} {M : Tab} (h : TabAt w V M) : BoxK (w.alloc (.cells #[.slice (some ⟨V.ba, V.oa, none⟩) M.n V.ca, .slice (some ⟨V.bn, V.on, none⟩) M.n V.cn] 30)) w.heap.size V M :=
  ⟨heap_at_new rfl, h.below ((Below.refl _ _).alloc (Nat.le_refl _) _)⟩
structure NilK (w : World) (b : Nat) : Prop where
  blk : w.heap[b]? = some (.cells #[.slice none 0 0, .slice none 0 0] 30 (0, 0))
theorem NilK.below {w w' : World} {b : Nat} (h : NilK w b) (hb : Below w.heap.size w w') : NilK w' b := ⟨by rw [hb.block _ (heap_lt h.blk)]; exact h.blk⟩
theorem NilK.new {w : World} : NilK (w.alloc (.cells #[.slice none 0 0, .slice none 0 0] 30)) w.heap.size := ⟨heap_at_new rfl⟩
theorem altL_lang (p : Pat) (xs : List (List Nat × Pat)) (z : List Nat) : (altL p xs).lang z ↔ p.lang z ∨ ∃ y ∈ xs, y.2.lang z := by
  induction xs generalizing p with
  | nil => simp [altL]
  | cons y xs ih =>
    show (altL (.alt p y.2) xs).lang z ↔ _
    rw [ih]
    show ((p.lang z ∨ y.2.lang z) ∨ _) ↔ _
    simp [or_assoc]
theorem PatT.bars {A : List Nat → Pat → Prop} {l l' : List Nat} {p p' : Pat} (h : PatT A l p) (h' : PatT A l' p') : ∃ p'', PatT A (l ++ 124 :: l') p'' ∧ p''.size = p.size + p'.size ∧ ∀ z, p''.lang z ↔ p.lang z ∨ p'.lang z := by
  obtain ⟨x, xs, h1, h2, rfl, rfl⟩ := h
  obtain ⟨y, ys, k1, k2, rfl, rfl⟩ := h'
  refine ⟨altL x.2 (xs ++ y :: ys), ⟨x, xs ++ y :: ys, h1, ?_, ?_, rfl⟩, ?_, fun z => ?_⟩
  · intro t ht
    rcases List.mem_append.1 ht with ht | ht
    · exact h2 t ht
    · rcases List.mem_cons.1 ht with rfl | ht
      · exact k1
      · exact k2 t ht
  · simp [barsL]
  · rw [altL_size, altL_size, altL_size]
    simp
    omega
  · rw [altL_lang, altL_lang, altL_lang]
    constructor
    · rintro (h | ⟨t, ht, hz⟩)
      · exact .inl (.inl h)
      · rcases List.mem_append.1 ht with ht | ht
        · exact .inl (.inr ⟨t, ht, hz⟩)
        · rcases List.mem_cons.1 ht with rfl | ht
          · exact .inr (.inl hz)
          · exact .inr (.inr ⟨t, ht, hz⟩)
    · rintro ((h | ⟨t, ht, hz⟩) | (h | ⟨t, ht, hz⟩))
      · exact .inl h
      · exact .inr ⟨t, List.mem_append.2 (.inl ht), hz⟩
      · exact .inr ⟨y, by simp, h⟩
      · exact .inr ⟨t, by simp [ht], hz⟩
def CompC (s : ByteArray) (L : List Nat → Bool) : Prop := ∀ w1 : World, Calls Try.prog 13 #[.string s, .int .i64 40] w1 fun e w' => CompYes L w1 e w'
theorem comp_small {s : ByteArray} {q : Pat} (h : PatT Atom0T (txt s) q) (hq : q.size ≤ 3) (hs : s.size ≤ 10) : CompC s (langB q.lang) ∧ ∀ R, IsLeast R (langB q.lang) → R.n ≤ 9 := by
  obtain ⟨M, hM, hM9, hML⟩ := mild_tab q hq
  have hML2 : ∀ x, Notes x → M.accepts x = langB q.lang x := fun x _ => by rw [Bool.eq_iff_iff, hML, langB_iff]
  exact ⟨fun w1 => (compile_text s 40 w1 ⟨q, h.zero, by omega, rfl⟩ (by omega) (by omega) (by omega)).mono (fun e w' ⟨n, hn⟩ => hn.yes hM hML2), fun R hR => Nat.le_trans (least_le hR hM hML2) hM9⟩
theorem star_any (x : List Nat) : Star (fun x : List Nat => ∃ c, x = [c] ∧ (fun _ : Nat => true) c = true) x := by
  induction x with
  | nil => exact .nil
  | cons c x ih => exact .cons (u := [c]) ⟨c, rfl, rfl⟩ ih
def noneTab : Tab := ⟨1, fun _ => false, fun _ _ => 0⟩
theorem noneTab_ok : noneTab.Ok := ⟨by decide, by decide, fun _ _ _ _ => by show 0 < 1; decide⟩
theorem comp_any : ∃ L, CompC ⟨#[46, 42]⟩ L ∧ ∀ x, L x = true := by
  have h : Tells (txt ⟨#[46, 42]⟩) (Mk.star.app (.one (fun _ => true))).lang := tells_item (la := [46]) (AtomT.zero (.inr (.inl ⟨rfl, rfl⟩))) .star trivial (by decide)
  have hL : ∀ x, langB (Mk.star.app (.one (fun _ => true))).lang x = true := fun x => (langB_iff _ x).2 (by rw [star_lang]; exact star_any x)
  exact ⟨_, fun w1 => (compile_text _ 40 w1 h (by decide) (by omega) (by omega)).mono (fun e w' ⟨n, hn⟩ => hn.yes allTab_ok (fun x _ => by rw [hL]; rfl)), hL⟩
theorem comp_none : ∃ L, CompC ⟨#[91, 94, 97, 45, 104, 93]⟩ L ∧ ∀ x, Notes x → L x = false := by
  have h : Tells (txt ⟨#[91, 94, 97, 45, 104, 93]⟩) (Pat.one (fun c => !setN (fun _ => false) [⟨0, 7, true⟩] c)).lang := by
    rw [show txt ⟨#[91, 94, 97, 45, 104, 93]⟩ = [91, 94, 97, 45, 104, 93] from rfl]
    have := tells_item (la := [91, 94, 97, 45, 104, 93]) (q := .one (fun c => !setN (fun _ => false) [⟨0, 7, true⟩] c)) (AtomT.zero (.inr (.inr ⟨[⟨0, 7, true⟩], by simp, by intro z hz; simp at hz; subst hz; exact ⟨by decide, by decide, by simp, by decide⟩, .inr ⟨rfl, rfl⟩⟩))) .none trivial (by decide)
    simpa [Mk.text, Mk.app] using this
  have hL : ∀ x, Notes x → langB (Pat.one (fun c => !setN (fun _ => false) [⟨0, 7, true⟩] c)).lang x = false := fun x hx => by
    rw [Bool.eq_false_iff, ne_eq, langB_iff]
    rintro ⟨c, rfl, hc⟩
    have := hx c (by simp)
    simp [setN, addSpan] at hc
    omega
  exact ⟨_, fun w1 => (compile_text _ 40 w1 h (by decide) (by omega) (by omega)).mono (fun e w' ⟨n, hn⟩ => hn.yes noneTab_ok (fun x hx => by rw [hL x hx]; rfl)), hL⟩
theorem joint_bar {s u : ByteArray} {q r : Pat} (h : PatT Atom0T (txt s) q) (hq : q.size ≤ 3) (h' : PatT Atom0T (txt u) r) (hr : r.size ≤ 3) (hs : s.size ≤ 10) (hu : u.size ≤ 10) :
    ∃ C, (∀ w1 : World, Calls Try.prog 13 #[.string (⟨#[40]⟩ ++ s ++ ⟨#[41, 124]⟩ ++ u), .int .i64 40] w1 fun e w' => ∃ n, CompPost C 40 n w1 e w') ∧ ∀ x, C x = (langB q.lang x || langB r.lang x) := by
  have h1 : PatT (AtomT 6) (40 :: txt s ++ [41]) (.chain .none q) := by
    have := PatT.one .none (AtomT.par (k := 5) h.zero) trivial
    simpa [Mk.text, Mk.app] using this
  obtain ⟨p, e1, e2, e3⟩ := h1.bars h'.zero
  have ht : txt (⟨#[40]⟩ ++ s ++ ⟨#[41, 124]⟩ ++ u) = 40 :: txt s ++ [41] ++ 124 :: txt u := by
    rw [txt_app, txt_app, txt_app, show txt ⟨#[40]⟩ = [40] from rfl, show txt ⟨#[41, 124]⟩ = [41, 124] from rfl]
    simp
  refine ⟨langB p.lang, fun w1 => compile_text _ 40 w1 ⟨p, by rw [ht]; exact e1, by rw [e2]; show 0 + q.size + r.size ≤ 10; omega, rfl⟩ ?_ (by omega) (by omega), fun x => ?_⟩
  · rw [ByteArray.size_append, ByteArray.size_append, ByteArray.size_append]
    show 1 + s.size + 2 + u.size ≤ 40
    omega
  · rw [Bool.eq_iff_iff, Bool.or_eq_true, langB_iff, langB_iff, langB_iff, e3]
    show (Cat (fun x => x = []) q.lang x ∨ _) ↔ _
    rw [cat_nl]
set_option maxRecDepth 20000 in
set_option maxHeartbeats 4000000 in
theorem joint_walk (a1 a2 : Option Addr) (l1 l2 c1 c2 : Nat) (z1 z2 : Nat → Int) (w : World) (h1 : CodeAt w a1 l1 z1) (h2 : CodeAt w a2 l2 z2) :
    Calls Try.prog 4 #[.slice a1 l1 c1, .slice a2 l2 c2] w fun e w' => e = .returned (.bool true) ∧ Below w.heap.size w w' := by
  have HC := small_ok a1 l1 c1 z1 w h1
  go_enter Try.func4, Try.ntmps4
  go_wp2_with fail
  refine HC.mono ?_
  clear HC h1
  rintro e w0 ⟨s1, q1, rfl, hq1, hz1, hs1, hB0⟩
  have HC := small_ok a2 l2 c2 z2 w0 (h2.below hB0)
  have HB0 : Hid (Below w.heap.size w w0) := hB0
  clear h2 hB0
  go_wp2_with fail
  refine HC.mono ?_
  clear HC
  rintro e w00 ⟨s2, q2, rfl, hq2, hz2, hs2, hB00⟩
  have BB0 : Below w.heap.size w w00 := HB0.out.trans (hB00.mono HB0.out.size)
  clear HB0 hB00
  obtain ⟨cp, cle⟩ := comp_small hq1 hz1 hs1
  obtain ⟨cq, cle2⟩ := comp_small hq2 hz2 hs2
  obtain ⟨C, cb, hC⟩ := joint_bar hq1 hz1 hq2 hz2 hs1 hs2
  obtain ⟨LA, ca, hLA⟩ := comp_any
  obtain ⟨LN, cn, hLN⟩ := comp_none
  have HCP : Hid (CompC s1 (langB q1.lang)) := cp
  have HCQ : Hid (CompC s2 (langB q2.lang)) := cq
  have HLP : Hid (∀ R, IsLeast R (langB q1.lang) → R.n ≤ 9) := cle
  have HLQ : Hid (∀ R, IsLeast R (langB q2.lang) → R.n ≤ 9) := cle2
  have HCB : Hid _ := cb
  have HCA : Hid (CompC ⟨#[46, 42]⟩ LA) := ca
  have HCN : Hid (CompC ⟨#[91, 94, 97, 45, 104, 93]⟩ LN) := cn
  have HC1 : Hid (∀ x, C x = (langB q1.lang x || langB q2.lang x)) := hC
  have HLA : Hid (∀ x, LA x = true) := hLA
  have HLN : Hid (∀ x, Notes x → LN x = false) := hLN
  clear cp cq cle cle2 cb ca cn hC hLA hLN hq1 hq2
  generalize langB q1.lang = A at *
  generalize langB q2.lang = B at *
  obtain ⟨W0, hW0⟩ : ∃ W, W = w00 := ⟨_, rfl⟩
  rw [← hW0] at BB0 ⊢
  clear hW0
  have HX := HCP.out W0
  go_wp2_with fail
  refine HX.mono ?_
  clear HX
  rintro e w1 ⟨hB1, Rp, Vp, hp, hdp, rfl, hT1, _⟩
  obtain ⟨W1, hW1⟩ : ∃ W, W = w1.alloc (.cells #[.slice (some ⟨Vp.ba, Vp.oa, none⟩) Rp.n Vp.ca, .slice (some ⟨Vp.bn, Vp.on, none⟩) Rp.n Vp.cn] 30) := ⟨_, rfl⟩
  have bp_1 : BoxK W1 w1.heap.size Vp Rp := by rw [hW1]; exact BoxK.new hT1
  have D1 : Below W0.heap.size W0 W1 := by rw [hW1]; exact hB1.alloc hB1.size _
  have BB1 : Below w.heap.size w W1 := BB0.trans (D1.mono BB0.size)
  clear hT1 hB1 D1 BB0
  go_upto_region 4 with fail
  rw [← hW1]
  clear hW1
  generalize w1.heap.size = p1 at *
  have sp := HLP.out Rp hp
  have okp := hp.isOk hdp
  have Hp : Hid (IsLeast Rp A) := hp
  clear hp HCP HLP
  have HX := HCQ.out W1
  go_wp2_with fail
  refine HX.mono ?_
  clear HX
  rintro e w2 ⟨hB2, Rq, Vq, hq, hdq, rfl, hT2, _⟩
  obtain ⟨W2, hW2⟩ : ∃ W, W = w2.alloc (.cells #[.slice (some ⟨Vq.ba, Vq.oa, none⟩) Rq.n Vq.ca, .slice (some ⟨Vq.bn, Vq.on, none⟩) Rq.n Vq.cn] 30) := ⟨_, rfl⟩
  have bq_2 : BoxK W2 w2.heap.size Vq Rq := by rw [hW2]; exact BoxK.new hT2
  have D2 : Below W1.heap.size W1 W2 := by rw [hW2]; exact hB2.alloc hB2.size _
  have bp_2 := bp_1.below D2
  clear bp_1
  have BB2 : Below w.heap.size w W2 := BB1.trans (D2.mono BB1.size)
  clear hT2 hB2 D2 BB1
  go_upto_region 5 with fail
  rw [← hW2]
  clear hW2
  generalize w2.heap.size = p2 at *
  have sq := HLQ.out Rq hq
  have okq := hq.isOk hdq
  have Hq : Hid (IsLeast Rq B) := hq
  clear hq HCQ HLQ
  have HJ : Hid (∀ x, Notes x → joinB 1 (Rp.accepts x) (Rq.accepts x) = C x) := fun x hx => by rw [Hp.out.lang x hx, Hq.out.lang x hx, HC1.out x]; simp [joinB]
  have HX := HCB.out W2
  go_wp2_with fail
  refine HX.mono ?_
  clear HX
  rintro e w3 ⟨nb, vb, erb, rfl, hB3, ⟨Rb, Vb, hb, hdb, hev, hT3, _, _⟩ | ⟨hev, _, hnb⟩⟩
  · obtain ⟨rfl, rfl⟩ : vb = _ ∧ erb = _ := by simpa using hev
    clear hev HCB
    obtain ⟨W3, hW3⟩ : ∃ W, W = w3.alloc (.cells #[.slice (some ⟨Vb.ba, Vb.oa, none⟩) Rb.n Vb.ca, .slice (some ⟨Vb.bn, Vb.on, none⟩) Rb.n Vb.cn] 30) := ⟨_, rfl⟩
    have bb_3 : BoxK W3 w3.heap.size Vb Rb := by rw [hW3]; exact BoxK.new hT3
    have D3 : Below W2.heap.size W2 W3 := by rw [hW3]; exact hB3.alloc hB3.size _
    have bp_3 := bp_2.below D3
    clear bp_2
    have bq_3 := bq_2.below D3
    clear bq_2
    have BB3 : Below w.heap.size w W3 := BB2.trans (D3.mono BB2.size)
    clear hT3 hB3 D3 BB2
    go_upto_region 6 with fail
    rw [← hW3]
    clear hW3
    generalize w3.heap.size = p3 at *
    have okb := hb.isOk hdb
    have Hb : Hid (IsLeast Rb C) := hb
    clear hb
    obtain ⟨xp0, xp1, _, _⟩ := cell_two bp_3.blk
    obtain ⟨xq0, xq1, _, _⟩ := cell_two bq_3.blk
    have HX := join_ok Vp Vq Rp Rq 1 40 W3 okp okq bp_3.tab bq_3.tab (by decide) (by decide) (by decide) (by decide)
    go_wp2_with fail
    refine HX.mono ?_
    clear HX
    rintro e w4 ⟨hB4, hc⟩
    rcases hc with ⟨Rj, Vj, hj, hdj, rfl, hT4, _⟩ | ⟨rfl, hlj, hnj⟩
    case inr => exact absurd (hnj Rb (Hb.out.to fun x hx => (HJ.out x hx).symm)) (Nat.not_lt.2 hdb)
    clear xp0 xp1 xq0 xq1
    obtain ⟨W4, hW4⟩ : ∃ W, W = w4.alloc (.cells #[.slice (some ⟨Vj.ba, Vj.oa, none⟩) Rj.n Vj.ca, .slice (some ⟨Vj.bn, Vj.on, none⟩) Rj.n Vj.cn] 30) := ⟨_, rfl⟩
    have bj_4 : BoxK W4 w4.heap.size Vj Rj := by rw [hW4]; exact BoxK.new hT4
    have D4 : Below W3.heap.size W3 W4 := by rw [hW4]; exact hB4.alloc hB4.size _
    have bp_4 := bp_3.below D4
    clear bp_3
    have bq_4 := bq_3.below D4
    clear bq_3
    have bb_4 := bb_3.below D4
    clear bb_3
    have BB4 : Below w.heap.size w W4 := BB3.trans (D4.mono BB3.size)
    clear hT4 hB4 D4 BB3
    go_upto_region 7 with fail
    rw [← hW4]
    clear hW4
    generalize w4.heap.size = p4 at *
    have okj := hj.isOk hdj
    have HSX : Hid (SameTab Rb Rj) := least_unique Hb.out (hj.to HJ.out)
    clear hj Hb
    obtain ⟨xp0, xp1, _, _⟩ := cell_two bp_4.blk
    have HX := not_ok Vp Rp W4 okp bp_4.tab
    go_wp2_with fail
    refine HX.mono ?_
    clear HX
    rintro e w5 ⟨hB5, hc⟩
    rcases hc with ⟨Rn, Vn, hn, hdn, rfl, hT5, _⟩ | ⟨_, hlt, _⟩
    case inr => exfalso; omega
    clear xp0 xp1
    obtain ⟨W5, hW5⟩ : ∃ W, W = w5.alloc (.cells #[.slice (some ⟨Vn.ba, Vn.oa, none⟩) Rn.n Vn.ca, .slice (some ⟨Vn.bn, Vn.on, none⟩) Rn.n Vn.cn] 30) := ⟨_, rfl⟩
    have bn_5 : BoxK W5 w5.heap.size Vn Rn := by rw [hW5]; exact BoxK.new hT5
    have D5 : Below W4.heap.size W4 W5 := by rw [hW5]; exact hB5.alloc hB5.size _
    have bp_5 := bp_4.below D5
    clear bp_4
    have bq_5 := bq_4.below D5
    clear bq_4
    have bb_5 := bb_4.below D5
    clear bb_4
    have bj_5 := bj_4.below D5
    clear bj_4
    have BB5 : Below w.heap.size w W5 := BB4.trans (D5.mono BB4.size)
    clear hT5 hB5 D5 BB4
    go_upto_region 8 with fail
    rw [← hW5]
    clear hW5
    generalize w5.heap.size = p5 at *
    have okn := hn.isOk hdn
    have Hn : Hid (IsLeast Rn fun x => !Rp.accepts x) := hn
    clear hn
    obtain ⟨xp0, xp1, _, _⟩ := cell_two bp_5.blk
    obtain ⟨xn0, xn1, _, _⟩ := cell_two bn_5.blk
    have HK : Hid (∀ x, Notes x → joinB 0 (Rp.accepts x) (Rn.accepts x) = LN x) := fun x hx => by rw [Hn.out.lang x hx, HLN.out x hx]; cases Rp.accepts x <;> simp [joinB]
    have HX := join_ok Vp Vn Rp Rn 0 40 W5 okp okn bp_5.tab bn_5.tab (by decide) (by decide) (by decide) (by decide)
    go_wp2_with fail
    refine HX.mono ?_
    clear HX
    rintro e w6 ⟨hB6, hc⟩
    rcases hc with ⟨Re, Ve, he, hde, rfl, hT6, _⟩ | ⟨_, hlt, hno⟩
    case inr =>
      obtain ⟨R, e1, e2⟩ := least_of (M := noneTab) noneTab_ok (L := fun x => joinB 0 (Rp.accepts x) (Rn.accepts x)) (fun x hx => by rw [HK.out x hx, HLN.out x hx]; rfl)
      have := hno R e1
      have h40 : (40 : Int).toNat = 40 := rfl
      have h1 : noneTab.n = 1 := rfl
      omega
    clear xp0 xp1 xn0 xn1
    obtain ⟨W6, hW6⟩ : ∃ W, W = w6.alloc (.cells #[.slice (some ⟨Ve.ba, Ve.oa, none⟩) Re.n Ve.ca, .slice (some ⟨Ve.bn, Ve.on, none⟩) Re.n Ve.cn] 30) := ⟨_, rfl⟩
    have be_6 : BoxK W6 w6.heap.size Ve Re := by rw [hW6]; exact BoxK.new hT6
    have D6 : Below W5.heap.size W5 W6 := by rw [hW6]; exact hB6.alloc hB6.size _
    have bp_6 := bp_5.below D6
    clear bp_5
    have bq_6 := bq_5.below D6
    clear bq_5
    have bb_6 := bb_5.below D6
    clear bb_5
    have bj_6 := bj_5.below D6
    clear bj_5
    have bn_6 := bn_5.below D6
    clear bn_5
    have BB6 : Below w.heap.size w W6 := BB5.trans (D6.mono BB5.size)
    clear hT6 hB6 D6 BB5
    go_upto_region 9 with fail
    rw [← hW6]
    clear hW6
    generalize w6.heap.size = p6 at *
    have oke := he.isOk hde
    have He : Hid (IsLeast Re LN) := he.to HK.out
    clear he HK
    obtain ⟨xp0, xp1, _, _⟩ := cell_two bp_6.blk
    obtain ⟨xn0, xn1, _, _⟩ := cell_two bn_6.blk
    have HK : Hid (∀ x, Notes x → joinB 1 (Rp.accepts x) (Rn.accepts x) = LA x) := fun x hx => by rw [Hn.out.lang x hx, HLA.out x]; cases Rp.accepts x <;> simp [joinB]
    have HX := join_ok Vp Vn Rp Rn 1 40 W6 okp okn bp_6.tab bn_6.tab (by decide) (by decide) (by decide) (by decide)
    go_wp2_with fail
    refine HX.mono ?_
    clear HX
    rintro e w7 ⟨hB7, hc⟩
    rcases hc with ⟨Ra, Va, ha, hda, rfl, hT7, _⟩ | ⟨_, hlt, hno⟩
    case inr =>
      obtain ⟨R, e1, e2⟩ := least_of (M := allTab) allTab_ok (L := fun x => joinB 1 (Rp.accepts x) (Rn.accepts x)) (fun x hx => by rw [HK.out x hx, HLA.out x]; rfl)
      have := hno R e1
      have h40 : (40 : Int).toNat = 40 := rfl
      have h1 : allTab.n = 1 := rfl
      omega
    clear xp0 xp1 xn0 xn1
    obtain ⟨W7, hW7⟩ : ∃ W, W = w7.alloc (.cells #[.slice (some ⟨Va.ba, Va.oa, none⟩) Ra.n Va.ca, .slice (some ⟨Va.bn, Va.on, none⟩) Ra.n Va.cn] 30) := ⟨_, rfl⟩
    have ba_7 : BoxK W7 w7.heap.size Va Ra := by rw [hW7]; exact BoxK.new hT7
    have D7 : Below W6.heap.size W6 W7 := by rw [hW7]; exact hB7.alloc hB7.size _
    have bp_7 := bp_6.below D7
    clear bp_6
    have bq_7 := bq_6.below D7
    clear bq_6
    have bb_7 := bb_6.below D7
    clear bb_6
    have bj_7 := bj_6.below D7
    clear bj_6
    have bn_7 := bn_6.below D7
    clear bn_6
    have be_7 := be_6.below D7
    clear be_6
    have BB7 : Below w.heap.size w W7 := BB6.trans (D7.mono BB6.size)
    clear hT7 hB7 D7 BB6
    go_upto_region 10 with fail
    rw [← hW7]
    clear hW7
    generalize w7.heap.size = p7 at *
    have oka := ha.isOk hda
    have Ha : Hid (IsLeast Ra LA) := ha.to HK.out
    clear ha HK
    obtain ⟨xb0, xb1, _, _⟩ := cell_two bb_7.blk
    obtain ⟨xj0, xj1, _, _⟩ := cell_two bj_7.blk
    have HX := same_ok Vb Vj Rb Rj W7 okb okj bb_7.tab bj_7.tab
    go_wp2_with fail
    refine HX.mono ?_
    clear HX
    rintro e W8 ⟨sb, rfl, hsb, D8⟩
    obtain rfl : sb = true := hsb.2 HSX.out
    clear hsb
    have bp_8 := bp_7.below D8
    clear bp_7
    have bq_8 := bq_7.below D8
    clear bq_7
    have bb_8 := bb_7.below D8
    clear bb_7
    have bj_8 := bj_7.below D8
    clear bj_7
    have bn_8 := bn_7.below D8
    clear bn_7
    have be_8 := be_7.below D8
    clear be_7
    have ba_8 := ba_7.below D8
    clear ba_7
    have BB8 : Below w.heap.size w W8 := BB7.trans (D8.mono BB7.size)
    clear D8 BB7
    clear xb0 xb1 xj0 xj1
    have HX := HCA.out W8
    go_wp2_with fail
    refine HX.mono ?_
    clear HX
    rintro e w9 ⟨hB9, Ry, Vy, hy, hdy, rfl, hT9, _⟩
    obtain ⟨W9, hW9⟩ : ∃ W, W = w9.alloc (.cells #[.slice (some ⟨Vy.ba, Vy.oa, none⟩) Ry.n Vy.ca, .slice (some ⟨Vy.bn, Vy.on, none⟩) Ry.n Vy.cn] 30) := ⟨_, rfl⟩
    have by_9 : BoxK W9 w9.heap.size Vy Ry := by rw [hW9]; exact BoxK.new hT9
    have D9 : Below W8.heap.size W8 W9 := by rw [hW9]; exact hB9.alloc hB9.size _
    have bp_9 := bp_8.below D9
    clear bp_8
    have bq_9 := bq_8.below D9
    clear bq_8
    have bb_9 := bb_8.below D9
    clear bb_8
    have bj_9 := bj_8.below D9
    clear bj_8
    have bn_9 := bn_8.below D9
    clear bn_8
    have be_9 := be_8.below D9
    clear be_8
    have ba_9 := ba_8.below D9
    clear ba_8
    have BB9 : Below w.heap.size w W9 := BB8.trans (D9.mono BB8.size)
    clear hT9 hB9 D9 BB8
    go_upto_region 14 with fail
    rw [← hW9]
    clear hW9
    generalize w9.heap.size = p9 at *
    have oky := hy.isOk hdy
    have HSY : Hid (SameTab Ra Ry) := least_unique Ha.out hy
    clear hy HCA
    obtain ⟨xa0, xa1, _, _⟩ := cell_two ba_9.blk
    obtain ⟨xy0, xy1, _, _⟩ := cell_two by_9.blk
    have HX := same_ok Va Vy Ra Ry W9 oka oky ba_9.tab by_9.tab
    go_wp2_with fail
    refine HX.mono ?_
    clear HX
    rintro e W10 ⟨sb, rfl, hsb, D10⟩
    obtain rfl : sb = true := hsb.2 HSY.out
    clear hsb
    have bp_10 := bp_9.below D10
    clear bp_9
    have bq_10 := bq_9.below D10
    clear bq_9
    have bb_10 := bb_9.below D10
    clear bb_9
    have bj_10 := bj_9.below D10
    clear bj_9
    have bn_10 := bn_9.below D10
    clear bn_9
    have be_10 := be_9.below D10
    clear be_9
    have ba_10 := ba_9.below D10
    clear ba_9
    have by_10 := by_9.below D10
    clear by_9
    have BB10 : Below w.heap.size w W10 := BB9.trans (D10.mono BB9.size)
    clear D10 BB9
    clear xa0 xa1 xy0 xy1
    have HX := HCN.out W10
    go_wp2_with fail
    refine HX.mono ?_
    clear HX
    rintro e w11 ⟨hB11, Rz, Vz, hz, hdz, rfl, hT11, _⟩
    obtain ⟨W11, hW11⟩ : ∃ W, W = w11.alloc (.cells #[.slice (some ⟨Vz.ba, Vz.oa, none⟩) Rz.n Vz.ca, .slice (some ⟨Vz.bn, Vz.on, none⟩) Rz.n Vz.cn] 30) := ⟨_, rfl⟩
    have bz_11 : BoxK W11 w11.heap.size Vz Rz := by rw [hW11]; exact BoxK.new hT11
    have D11 : Below W10.heap.size W10 W11 := by rw [hW11]; exact hB11.alloc hB11.size _
    have bp_11 := bp_10.below D11
    clear bp_10
    have bq_11 := bq_10.below D11
    clear bq_10
    have bb_11 := bb_10.below D11
    clear bb_10
    have bj_11 := bj_10.below D11
    clear bj_10
    have bn_11 := bn_10.below D11
    clear bn_10
    have be_11 := be_10.below D11
    clear be_10
    have ba_11 := ba_10.below D11
    clear ba_10
    have by_11 := by_10.below D11
    clear by_10
    have BB11 : Below w.heap.size w W11 := BB10.trans (D11.mono BB10.size)
    clear hT11 hB11 D11 BB10
    go_upto_region 16 with fail
    rw [← hW11]
    clear hW11
    generalize w11.heap.size = p11 at *
    have okz := hz.isOk hdz
    have HSZ : Hid (SameTab Re Rz) := least_unique He.out hz
    clear hz HCN
    obtain ⟨xe0, xe1, _, _⟩ := cell_two be_11.blk
    obtain ⟨xz0, xz1, _, _⟩ := cell_two bz_11.blk
    have HX := same_ok Ve Vz Re Rz W11 oke okz be_11.tab bz_11.tab
    go_wp2_with fail
    refine HX.mono ?_
    clear HX
    rintro e W12 ⟨sb, rfl, hsb, D12⟩
    obtain rfl : sb = true := hsb.2 HSZ.out
    clear hsb
    have bp_12 := bp_11.below D12
    clear bp_11
    have bq_12 := bq_11.below D12
    clear bq_11
    have bb_12 := bb_11.below D12
    clear bb_11
    have bj_12 := bj_11.below D12
    clear bj_11
    have bn_12 := bn_11.below D12
    clear bn_11
    have be_12 := be_11.below D12
    clear be_11
    have ba_12 := ba_11.below D12
    clear ba_11
    have by_12 := by_11.below D12
    clear by_11
    have bz_12 := bz_11.below D12
    clear bz_11
    have BB12 : Below w.heap.size w W12 := BB11.trans (D12.mono BB11.size)
    clear D12 BB11
    clear xe0 xe1 xz0 xz1
    obtain ⟨xp0, xp1, _, _⟩ := cell_two bp_12.blk
    obtain ⟨xq0, xq1, _, _⟩ := cell_two bq_12.blk
    have HBF : Hid (Below w.heap.size w W12) := BB12
    clear BB12 bp_12 bq_12 bb_12 bj_12 bn_12 be_12 ba_12 by_12 bz_12
    go_wp2_with fail
    go_ret
    exact ⟨rfl, HBF.out⟩
  · obtain ⟨rfl, rfl⟩ : vb = _ ∧ erb = _ := by simpa using hev
    clear hev HCB
    obtain ⟨W3, hW3⟩ : ∃ W, W = w3.alloc (.cells #[.slice none 0 0, .slice none 0 0] 30) := ⟨_, rfl⟩
    have bb_3 : NilK W3 w3.heap.size := by rw [hW3]; exact NilK.new
    have D3 : Below W2.heap.size W2 W3 := by rw [hW3]; exact hB3.alloc hB3.size _
    have bp_3 := bp_2.below D3
    clear bp_2
    have bq_3 := bq_2.below D3
    clear bq_2
    have BB3 : Below w.heap.size w W3 := BB2.trans (D3.mono BB2.size)
    clear hB3 D3 BB2
    go_upto_region 6 with fail
    rw [← hW3]
    clear hW3
    generalize w3.heap.size = p3 at *
    have HNB : Hid (∀ R, IsLeast R C → 40 < R.n) := hnb
    clear hnb
    obtain ⟨xp0, xp1, _, _⟩ := cell_two bp_3.blk
    obtain ⟨xq0, xq1, _, _⟩ := cell_two bq_3.blk
    have HX := join_ok Vp Vq Rp Rq 1 40 W3 okp okq bp_3.tab bq_3.tab (by decide) (by decide) (by decide) (by decide)
    go_wp2_with fail
    refine HX.mono ?_
    clear HX
    rintro e w4 ⟨hB4, hc⟩
    rcases hc with ⟨Rj, Vj, hj, hdj, rfl, hT4, _⟩ | ⟨rfl, hlj, hnj⟩
    case inl => exact absurd (HNB.out Rj (hj.to HJ.out)) (Nat.not_lt.2 hdj)
    clear xp0 xp1 xq0 xq1
    obtain ⟨W4, hW4⟩ : ∃ W, W = w4.alloc (.cells #[.slice none 0 0, .slice none 0 0] 30) := ⟨_, rfl⟩
    have bj_4 : NilK W4 w4.heap.size := by rw [hW4]; exact NilK.new
    have D4 : Below W3.heap.size W3 W4 := by rw [hW4]; exact hB4.alloc hB4.size _
    have bp_4 := bp_3.below D4
    clear bp_3
    have bq_4 := bq_3.below D4
    clear bq_3
    have bb_4 := bb_3.below D4
    clear bb_3
    have BB4 : Below w.heap.size w W4 := BB3.trans (D4.mono BB3.size)
    clear hB4 D4 BB3
    go_upto_region 7 with fail
    rw [← hW4]
    clear hW4
    generalize w4.heap.size = p4 at *
    clear hnj HNB
    obtain ⟨xp0, xp1, _, _⟩ := cell_two bp_4.blk
    have HX := not_ok Vp Rp W4 okp bp_4.tab
    go_wp2_with fail
    refine HX.mono ?_
    clear HX
    rintro e w5 ⟨hB5, hc⟩
    rcases hc with ⟨Rn, Vn, hn, hdn, rfl, hT5, _⟩ | ⟨_, hlt, _⟩
    case inr => exfalso; omega
    clear xp0 xp1
    obtain ⟨W5, hW5⟩ : ∃ W, W = w5.alloc (.cells #[.slice (some ⟨Vn.ba, Vn.oa, none⟩) Rn.n Vn.ca, .slice (some ⟨Vn.bn, Vn.on, none⟩) Rn.n Vn.cn] 30) := ⟨_, rfl⟩
    have bn_5 : BoxK W5 w5.heap.size Vn Rn := by rw [hW5]; exact BoxK.new hT5
    have D5 : Below W4.heap.size W4 W5 := by rw [hW5]; exact hB5.alloc hB5.size _
    have bp_5 := bp_4.below D5
    clear bp_4
    have bq_5 := bq_4.below D5
    clear bq_4
    have bb_5 := bb_4.below D5
    clear bb_4
    have bj_5 := bj_4.below D5
    clear bj_4
    have BB5 : Below w.heap.size w W5 := BB4.trans (D5.mono BB4.size)
    clear hT5 hB5 D5 BB4
    go_upto_region 8 with fail
    rw [← hW5]
    clear hW5
    generalize w5.heap.size = p5 at *
    have okn := hn.isOk hdn
    have Hn : Hid (IsLeast Rn fun x => !Rp.accepts x) := hn
    clear hn
    obtain ⟨xp0, xp1, _, _⟩ := cell_two bp_5.blk
    obtain ⟨xn0, xn1, _, _⟩ := cell_two bn_5.blk
    have HK : Hid (∀ x, Notes x → joinB 0 (Rp.accepts x) (Rn.accepts x) = LN x) := fun x hx => by rw [Hn.out.lang x hx, HLN.out x hx]; cases Rp.accepts x <;> simp [joinB]
    have HX := join_ok Vp Vn Rp Rn 0 40 W5 okp okn bp_5.tab bn_5.tab (by decide) (by decide) (by decide) (by decide)
    go_wp2_with fail
    refine HX.mono ?_
    clear HX
    rintro e w6 ⟨hB6, hc⟩
    rcases hc with ⟨Re, Ve, he, hde, rfl, hT6, _⟩ | ⟨_, hlt, hno⟩
    case inr =>
      obtain ⟨R, e1, e2⟩ := least_of (M := noneTab) noneTab_ok (L := fun x => joinB 0 (Rp.accepts x) (Rn.accepts x)) (fun x hx => by rw [HK.out x hx, HLN.out x hx]; rfl)
      have := hno R e1
      have h40 : (40 : Int).toNat = 40 := rfl
      have h1 : noneTab.n = 1 := rfl
      omega
    clear xp0 xp1 xn0 xn1
    obtain ⟨W6, hW6⟩ : ∃ W, W = w6.alloc (.cells #[.slice (some ⟨Ve.ba, Ve.oa, none⟩) Re.n Ve.ca, .slice (some ⟨Ve.bn, Ve.on, none⟩) Re.n Ve.cn] 30) := ⟨_, rfl⟩
    have be_6 : BoxK W6 w6.heap.size Ve Re := by rw [hW6]; exact BoxK.new hT6
    have D6 : Below W5.heap.size W5 W6 := by rw [hW6]; exact hB6.alloc hB6.size _
    have bp_6 := bp_5.below D6
    clear bp_5
    have bq_6 := bq_5.below D6
    clear bq_5
    have bb_6 := bb_5.below D6
    clear bb_5
    have bj_6 := bj_5.below D6
    clear bj_5
    have bn_6 := bn_5.below D6
    clear bn_5
    have BB6 : Below w.heap.size w W6 := BB5.trans (D6.mono BB5.size)
    clear hT6 hB6 D6 BB5
    go_upto_region 9 with fail
    rw [← hW6]
    clear hW6
    generalize w6.heap.size = p6 at *
    have oke := he.isOk hde
    have He : Hid (IsLeast Re LN) := he.to HK.out
    clear he HK
    obtain ⟨xp0, xp1, _, _⟩ := cell_two bp_6.blk
    obtain ⟨xn0, xn1, _, _⟩ := cell_two bn_6.blk
    have HK : Hid (∀ x, Notes x → joinB 1 (Rp.accepts x) (Rn.accepts x) = LA x) := fun x hx => by rw [Hn.out.lang x hx, HLA.out x]; cases Rp.accepts x <;> simp [joinB]
    have HX := join_ok Vp Vn Rp Rn 1 40 W6 okp okn bp_6.tab bn_6.tab (by decide) (by decide) (by decide) (by decide)
    go_wp2_with fail
    refine HX.mono ?_
    clear HX
    rintro e w7 ⟨hB7, hc⟩
    rcases hc with ⟨Ra, Va, ha, hda, rfl, hT7, _⟩ | ⟨_, hlt, hno⟩
    case inr =>
      obtain ⟨R, e1, e2⟩ := least_of (M := allTab) allTab_ok (L := fun x => joinB 1 (Rp.accepts x) (Rn.accepts x)) (fun x hx => by rw [HK.out x hx, HLA.out x]; rfl)
      have := hno R e1
      have h40 : (40 : Int).toNat = 40 := rfl
      have h1 : allTab.n = 1 := rfl
      omega
    clear xp0 xp1 xn0 xn1
    obtain ⟨W7, hW7⟩ : ∃ W, W = w7.alloc (.cells #[.slice (some ⟨Va.ba, Va.oa, none⟩) Ra.n Va.ca, .slice (some ⟨Va.bn, Va.on, none⟩) Ra.n Va.cn] 30) := ⟨_, rfl⟩
    have ba_7 : BoxK W7 w7.heap.size Va Ra := by rw [hW7]; exact BoxK.new hT7
    have D7 : Below W6.heap.size W6 W7 := by rw [hW7]; exact hB7.alloc hB7.size _
    have bp_7 := bp_6.below D7
    clear bp_6
    have bq_7 := bq_6.below D7
    clear bq_6
    have bb_7 := bb_6.below D7
    clear bb_6
    have bj_7 := bj_6.below D7
    clear bj_6
    have bn_7 := bn_6.below D7
    clear bn_6
    have be_7 := be_6.below D7
    clear be_6
    have BB7 : Below w.heap.size w W7 := BB6.trans (D7.mono BB6.size)
    clear hT7 hB7 D7 BB6
    go_upto_region 10 with fail
    rw [← hW7]
    clear hW7
    generalize w7.heap.size = p7 at *
    have oka := ha.isOk hda
    have Ha : Hid (IsLeast Ra LA) := ha.to HK.out
    clear ha HK
    obtain ⟨xb0, xb1, _, _⟩ := cell_two bb_7.blk
    obtain ⟨xj0, xj1, _, _⟩ := cell_two bj_7.blk
    have HX := same_nil W7
    go_wp2_with fail
    refine HX.mono ?_
    clear HX
    rintro e W8 ⟨rfl, D8⟩
    have bp_8 := bp_7.below D8
    clear bp_7
    have bq_8 := bq_7.below D8
    clear bq_7
    have bb_8 := bb_7.below D8
    clear bb_7
    have bj_8 := bj_7.below D8
    clear bj_7
    have bn_8 := bn_7.below D8
    clear bn_7
    have be_8 := be_7.below D8
    clear be_7
    have ba_8 := ba_7.below D8
    clear ba_7
    have BB8 : Below w.heap.size w W8 := BB7.trans (D8.mono BB7.size)
    clear D8 BB7
    clear xb0 xb1 xj0 xj1
    have HX := HCA.out W8
    go_wp2_with fail
    refine HX.mono ?_
    clear HX
    rintro e w9 ⟨hB9, Ry, Vy, hy, hdy, rfl, hT9, _⟩
    obtain ⟨W9, hW9⟩ : ∃ W, W = w9.alloc (.cells #[.slice (some ⟨Vy.ba, Vy.oa, none⟩) Ry.n Vy.ca, .slice (some ⟨Vy.bn, Vy.on, none⟩) Ry.n Vy.cn] 30) := ⟨_, rfl⟩
    have by_9 : BoxK W9 w9.heap.size Vy Ry := by rw [hW9]; exact BoxK.new hT9
    have D9 : Below W8.heap.size W8 W9 := by rw [hW9]; exact hB9.alloc hB9.size _
    have bp_9 := bp_8.below D9
    clear bp_8
    have bq_9 := bq_8.below D9
    clear bq_8
    have bb_9 := bb_8.below D9
    clear bb_8
    have bj_9 := bj_8.below D9
    clear bj_8
    have bn_9 := bn_8.below D9
    clear bn_8
    have be_9 := be_8.below D9
    clear be_8
    have ba_9 := ba_8.below D9
    clear ba_8
    have BB9 : Below w.heap.size w W9 := BB8.trans (D9.mono BB8.size)
    clear hT9 hB9 D9 BB8
    go_upto_region 14 with fail
    rw [← hW9]
    clear hW9
    generalize w9.heap.size = p9 at *
    have oky := hy.isOk hdy
    have HSY : Hid (SameTab Ra Ry) := least_unique Ha.out hy
    clear hy HCA
    obtain ⟨xa0, xa1, _, _⟩ := cell_two ba_9.blk
    obtain ⟨xy0, xy1, _, _⟩ := cell_two by_9.blk
    have HX := same_ok Va Vy Ra Ry W9 oka oky ba_9.tab by_9.tab
    go_wp2_with fail
    refine HX.mono ?_
    clear HX
    rintro e W10 ⟨sb, rfl, hsb, D10⟩
    obtain rfl : sb = true := hsb.2 HSY.out
    clear hsb
    have bp_10 := bp_9.below D10
    clear bp_9
    have bq_10 := bq_9.below D10
    clear bq_9
    have bb_10 := bb_9.below D10
    clear bb_9
    have bj_10 := bj_9.below D10
    clear bj_9
    have bn_10 := bn_9.below D10
    clear bn_9
    have be_10 := be_9.below D10
    clear be_9
    have ba_10 := ba_9.below D10
    clear ba_9
    have by_10 := by_9.below D10
    clear by_9
    have BB10 : Below w.heap.size w W10 := BB9.trans (D10.mono BB9.size)
    clear D10 BB9
    clear xa0 xa1 xy0 xy1
    have HX := HCN.out W10
    go_wp2_with fail
    refine HX.mono ?_
    clear HX
    rintro e w11 ⟨hB11, Rz, Vz, hz, hdz, rfl, hT11, _⟩
    obtain ⟨W11, hW11⟩ : ∃ W, W = w11.alloc (.cells #[.slice (some ⟨Vz.ba, Vz.oa, none⟩) Rz.n Vz.ca, .slice (some ⟨Vz.bn, Vz.on, none⟩) Rz.n Vz.cn] 30) := ⟨_, rfl⟩
    have bz_11 : BoxK W11 w11.heap.size Vz Rz := by rw [hW11]; exact BoxK.new hT11
    have D11 : Below W10.heap.size W10 W11 := by rw [hW11]; exact hB11.alloc hB11.size _
    have bp_11 := bp_10.below D11
    clear bp_10
    have bq_11 := bq_10.below D11
    clear bq_10
    have bb_11 := bb_10.below D11
    clear bb_10
    have bj_11 := bj_10.below D11
    clear bj_10
    have bn_11 := bn_10.below D11
    clear bn_10
    have be_11 := be_10.below D11
    clear be_10
    have ba_11 := ba_10.below D11
    clear ba_10
    have by_11 := by_10.below D11
    clear by_10
    have BB11 : Below w.heap.size w W11 := BB10.trans (D11.mono BB10.size)
    clear hT11 hB11 D11 BB10
    go_upto_region 16 with fail
    rw [← hW11]
    clear hW11
    generalize w11.heap.size = p11 at *
    have okz := hz.isOk hdz
    have HSZ : Hid (SameTab Re Rz) := least_unique He.out hz
    clear hz HCN
    obtain ⟨xe0, xe1, _, _⟩ := cell_two be_11.blk
    obtain ⟨xz0, xz1, _, _⟩ := cell_two bz_11.blk
    have HX := same_ok Ve Vz Re Rz W11 oke okz be_11.tab bz_11.tab
    go_wp2_with fail
    refine HX.mono ?_
    clear HX
    rintro e W12 ⟨sb, rfl, hsb, D12⟩
    obtain rfl : sb = true := hsb.2 HSZ.out
    clear hsb
    have bp_12 := bp_11.below D12
    clear bp_11
    have bq_12 := bq_11.below D12
    clear bq_11
    have bb_12 := bb_11.below D12
    clear bb_11
    have bj_12 := bj_11.below D12
    clear bj_11
    have bn_12 := bn_11.below D12
    clear bn_11
    have be_12 := be_11.below D12
    clear be_11
    have ba_12 := ba_11.below D12
    clear ba_11
    have by_12 := by_11.below D12
    clear by_11
    have bz_12 := bz_11.below D12
    clear bz_11
    have BB12 : Below w.heap.size w W12 := BB11.trans (D12.mono BB11.size)
    clear D12 BB11
    clear xe0 xe1 xz0 xz1
    obtain ⟨xp0, xp1, _, _⟩ := cell_two bp_12.blk
    obtain ⟨xq0, xq1, _, _⟩ := cell_two bq_12.blk
    have HBF : Hid (Below w.heap.size w W12) := BB12
    clear BB12 bp_12 bq_12 bb_12 bj_12 bn_12 be_12 ba_12 by_12 bz_12
    have hl40 : 40 < Rp.n * Rq.n := hlj
    have hm81 : Rp.n * Rq.n ≤ 9 * 9 := Nat.mul_le_mul sp sq
    obtain ⟨m, hm⟩ : ∃ m : Nat, Rp.n * Rq.n = m := ⟨_, rfl⟩
    have hmi : (Rp.n : Int) * (Rq.n : Int) = (m : Int) := by rw [← hm]; exact (Int.natCast_mul _ _).symm
    have hm40 : (40 : Int) < (m : Int) := by omega
    have hm9 : (m : Int) ≤ 81 := by omega
    clear hm hl40 hm81 hlj
    go_wp2_with fail
    go_ret
    exact ⟨rfl, HBF.out⟩
end Go.Proofs.Ytpngikmcjkjdaab

namespace Go.Proofs.Ytpngikmcjkjdaab
open Go.RowKit
set_option linter.unusedVariables false
def IsRow (k : IntKind) (w : World) (a : Option Addr) (len cap : Nat) (zs : List Int) : Prop :=
  (a = none ∧ len = 0 ∧ cap = 0 ∧ zs = []) ∨
  ∃ x, a = some x ∧ len ≤ cap ∧ cap ≤ maxLen ∧ zs.length = cap ∧ (∀ i, i < zs.length → w.cell? (x.add i) = some (.int k (zs.getD i 0))) ∧ ∀ n ∈ zs, (Lit.int k n).wf = true
theorem wf_i64 {n : Int} (h : (Lit.int .i64 n).wf = true) : -9223372036854775808 ≤ n ∧ n ≤ 9223372036854775807 := bounds_i64 h
theorem codeAt_of_row {w : World} {a : Option Addr} {len cap : Nat} {zs : List Int} (h : IsRow .i64 w a len cap zs) : CodeAt w a len (fun t => zs.getD t 0) := by
  rcases h with ⟨rfl, rfl, rfl, rfl⟩ | ⟨x, rfl, hl, hm, hz, hc, hw⟩
  · exact ⟨by omega, fun t ht => absurd ht (by omega), fun t ht => absurd ht (by omega)⟩
  · unfold maxLen at hm
    refine ⟨by omega, fun t ht => ?_, fun t ht => ?_⟩
    · obtain ⟨b, off, rfl, hcc⟩ := Go.ints_at hc (by omega)
      exact ⟨b, off, rfl, hcc t (by omega)⟩
    · have : zs.getD t 0 ∈ zs := by
        rw [List.getD_eq_getElem?_getD, List.getElem?_eq_getElem (show t < zs.length by omega)]; exact List.getElem_mem _
      exact wf_i64 (hw _ this)
end Go.Proofs.Ytpngikmcjkjdaab
