import Derived.Test.YtpngikmcjkjdaaaParted
namespace Go.Proofs.Ytpngikmcjkjdaaa
open Go.RowKit
set_option linter.unusedVariables false

/-- All of it lies below block N. -/
structure Lay.Upto (V : Lay) (N n : Nat) : Prop where
  a : V.ba < N
  b : V.bn < N
  r : ∀ i, i < n → V.rb i < N
theorem TabAt.upto {w : World} {V : Lay} {M : Tab} (h : TabAt w V M) (hn : 1 ≤ M.n) : V.Upto w.heap.size M.n :=
  ⟨lt_of_cell (h.acc 0 hn), lt_of_cell (h.row 0 hn), fun i hi => lt_of_cell (h.cel i 0 hi (by omega))⟩
theorem TabAt.setUpto {w : World} {V : Lay} {M : Tab} (h : TabAt w V M) {N : Nat} (hV : V.Upto N M.n) {p : Addr} (hp : N ≤ p.block) (u : Value) : TabAt (w.setCell p u) V M where
  acc i hi := by rw [cell_set_other (by have := hV.a; simp; omega)]; exact h.acc i hi
  row i hi := by rw [cell_set_other (by have := hV.b; simp; omega)]; exact h.row i hi
  cel i c hi hc := by rw [cell_set_other (by have := hV.r i hi; simp; omega)]; exact h.cel i c hi hc
theorem box_keep {w : World} {p q : Nat} {V : Lay} {M : Tab} {u v : Value} (h : BoxAt w p V M) (hV : V.Upto q M.n) (hpq : p < q) : BoxAt ((w.setCell ⟨q, 0, none⟩ u).setCell ⟨q, 1, none⟩ v) p V M :=
  ⟨heap_set_other (heap_set_other h.blk (by simp; omega)) (by simp; omega), (h.tab.setUpto hV (p := ⟨q, 0, none⟩) (Nat.le_refl _) _).setUpto hV (p := ⟨q, 1, none⟩) (Nat.le_refl _) _⟩
theorem box_put {w : World} {q : Nat} {V U : Lay} {M N : Tab} (h : BoxAt w q V M) (hT : TabAt w U N) (hF : U.From (q + 1) N.n) :
    BoxAt ((w.setCell ⟨q, 0, none⟩ (.slice (some ⟨U.ba, U.oa, none⟩) N.n U.ca)).setCell ⟨q, 1, none⟩ (.slice (some ⟨U.bn, U.on, none⟩) N.n U.cn)) q U N :=
  ⟨two_set1 (two_set0 h.blk), hT.res hF (by omega) _ _⟩
theorem wr_pred (n : Nat) (h : 1 ≤ n) (h2 : n ≤ 100) : IntKind.i64.wrap ((n : Int) - 1) = ((n - 1 : Nat) : Int) := by
  rw [IntKind.wrap_i64]; omega

theorem bytesLess_lex : ∀ (l1 l2 : List UInt8), l1.length = l2.length → (∀ c ∈ l1, 97 ≤ c.toNat) → (∀ c ∈ l2, 97 ≤ c.toNat) → Op.bytesLess l1 l2 = true → lexlt (l1.map fun c => c.toNat - 97) (l2.map fun c => c.toNat - 97)
  | _, [], _, _, _, h => by simp [Op.bytesLess] at h
  | [], _ :: _, hl, _, _, _ => by simp at hl
  | a :: x, b :: y, hl, h1, h2, h => by
    simp only [Op.bytesLess, Bool.or_eq_true, Bool.and_eq_true, decide_eq_true_eq, beq_iff_eq] at h
    simp only [List.map_cons, lexlt]
    have ha := h1 a (by simp)
    have hb := h2 b (by simp)
    rcases h with h | ⟨rfl, h⟩
    · have := UInt8.lt_iff_toNat_lt.1 h
      left; omega
    · exact .inr ⟨rfl, bytesLess_lex x y (by simpa using hl) (fun c hc => h1 c (by simp [hc])) (fun c hc => h2 c (by simp [hc])) h⟩
theorem lexlt_asymm : ∀ {a b : List Nat}, lexlt a b → ¬ lexlt b a := fun h h' => lexlt_irrefl _ (lexlt_trans h h')
/-- What is not behind another is not ahead of it, by Go's own order. -/
theorem not_ahead {x y : ByteArray} (hx : IsText x) (hy : IsText y) (h : sle (notesOf x) (notesOf y)) : ¬ y.size < x.size ∧ (y.size = x.size → Op.bytesLess y.toList x.toList = false) := by
  rw [ByteArray.toList_eq, ByteArray.toList_eq]
  have lx := notesOf_length x
  have ly := notesOf_length y
  rcases h with h | h | ⟨hl, h⟩
  · have hs : x.size = y.size := by rw [← lx, ← ly, h]
    refine ⟨by omega, fun e => ?_⟩
    rw [Bool.eq_false_iff]; intro hb
    have := bytesLess_lex _ _ (by rw [Array.length_toList, Array.length_toList]; exact e) (fun c hc => (hy c hc).1) (fun c hc => (hx c hc).1) hb
    exact lexlt_irrefl _ (by have h' : notesOf x = notesOf y := h; simp only [notesOf] at h'; rw [h'] at this; exact this)
  · exact ⟨by omega, fun e => by omega⟩
  · refine ⟨by omega, fun e => ?_⟩
    rw [Bool.eq_false_iff]; intro hb
    have := bytesLess_lex _ _ (by rw [Array.length_toList, Array.length_toList]; exact e) (fun c hc => (hy c hc).1) (fun c hc => (hx c hc).1) hb
    exact lexlt_asymm h this
theorem sameTab_read {M N : Tab} (h : SameTab M N) (hM : Numbered M) (x : List Nat) (hx : Notes x) : ∀ s, s < M.n → M.read s x = N.read s x ∧ M.read s x < M.n := by
  induction x with
  | nil => intro s hs; exact ⟨rfl, hs⟩
  | cons c x ih =>
    intro s hs
    have hc : c < 8 := hx c (by simp)
    have := ih (fun d hd => hx d (by simp [hd])) (M.nxt s c) (hM.nx s c hs hc)
    simp only [Tab.read, List.foldl_cons] at this ⊢
    rw [← h.nxt s c hs hc]
    exact this
theorem sameTab_accepts {M N : Tab} (h : SameTab M N) (hM : Numbered M) (hN : Numbered N) (x : List Nat) (hx : Notes x) : M.accepts x = N.accepts x := by
  have := sameTab_read h hM x hx 0 hM.pos
  rw [Tab.accepts, Tab.accepts, ← this.1, h.acc _ this.2]

set_option maxRecDepth 20000 in
set_option maxHeartbeats 4000000 in
theorem told_walk (a1 a2 a3 : Option Addr) (l1 l2 l3 c1 c2 c3 : Nat) (z1 z2 z3 : Nat → Int) (w : World) (h1 : CodeAt w a1 l1 z1) (h2 : CodeAt w a2 l2 z2) (h3 : CodeAt w a3 l3 z3) :
    Calls Try.prog 6 #[.slice a1 l1 c1, .slice a2 l2 c2, .slice a3 l3 c3] w fun e w' => e = .returned (.bool true) ∧ Below w.heap.size w w' := by
  go_enter Try.func6, Try.ntmps6
  -- t
  go_wp2_with fail
  refine (table_ok a1 l1 c1 z1 w h1).mono ?_
  rintro e w1 ⟨Vt, rfl, hT1, hB1⟩
  have okt := codeTab_ok l1 z1
  have szt := codeTab_n l1 z1
  have hlow1 := hB1.size
  obtain ⟨W1, hW1⟩ : ∃ W, W = w1.alloc (.cells #[.slice (some ⟨Vt.ba, Vt.oa, none⟩) (codeTab l1 z1).n Vt.ca, .slice (some ⟨Vt.bn, Vt.on, none⟩) (codeTab l1 z1).n Vt.cn] 26) := ⟨_, rfl⟩
  have bt_1 : BoxAt W1 w1.heap.size Vt (codeTab l1 z1) := by rw [hW1]; exact BoxAt.new hT1
  have D1 : Below w.heap.size w W1 := by rw [hW1]; exact hB1.alloc hB1.size _
  have BB1 : Below w.heap.size w W1 := D1
  clear hT1 hB1 D1
  go_upto_region 2 with fail
  rw [← hW1]
  clear hW1
  have hlow : w.heap.size ≤ w1.heap.size := hlow1
  generalize w1.heap.size = p1 at *
  generalize codeTab l1 z1 = Mt at *
  -- u
  go_wp2_with fail
  refine (table_ok a2 l2 c2 z2 W1 (h2.below BB1)).mono ?_
  rintro e w2 ⟨Vu, rfl, hT2, hB2⟩
  have oku := codeTab_ok l2 z2
  have szu := codeTab_n l2 z2
  have hup : Vt.Upto w2.heap.size Mt.n := ((bt_1.below hB2).tab).upto okt.lo
  have hp12 : p1 < w2.heap.size := heap_lt (bt_1.below hB2).blk
  obtain ⟨W2, hW2⟩ : ∃ W, W = w2.alloc (.cells #[.slice (some ⟨Vu.ba, Vu.oa, none⟩) (codeTab l2 z2).n Vu.ca, .slice (some ⟨Vu.bn, Vu.on, none⟩) (codeTab l2 z2).n Vu.cn] 26) := ⟨_, rfl⟩
  have bu_2 : BoxAt W2 w2.heap.size Vu (codeTab l2 z2) := by rw [hW2]; exact BoxAt.new hT2
  have D2 : Below W1.heap.size W1 W2 := by rw [hW2]; exact hB2.alloc hB2.size _
  have bt_2 := bt_1.below D2
  clear bt_1
  have BB2 : Below w.heap.size w W2 := BB1.trans (D2.mono BB1.size)
  clear hT2 hB2 D2
  clear BB1
  go_upto_region 3 with fail
  rw [← hW2]
  clear hW2
  generalize w2.heap.size = p2 at *
  generalize codeTab l2 z2 = Mu at *
  have rz := atN_rng (h2.below BB2) 0
  go_wp2_with fail
  refine (at_ok a2 l2 c2 z2 0 W2 (h2.below BB2) (by omega)).mono ?_
  rintro e w' ⟨rfl, hw'⟩
  obtain rfl : W2 = w' := hw'.symm
  rw [show (0 : Int).toNat = 0 from rfl]
  generalize atN l2 z2 0 = zz at *
  go_wp2_with fail
  refine (pick_any zz 7 W2 (by omega) (by omega) rz.1 rz.2).mono ?_
  rw [show (7 : Int).toNat = 7 from rfl]
  rintro e w' ⟨rfl, hw'⟩
  obtain rfl : W2 = w' := hw'.symm
  generalize pickN zz 7 = pv at *
  have HXT : Hid (BoxAt W2 p1 Vt Mt) := bt_2
  have HXU : Hid (BoxAt W2 p2 Vu Mu) := bu_2
  have HBB : Hid (Below w.heap.size w W2) := BB2
  clear rz
  go_upto_if 36 with fail
  go_cut [47] (fun _ wc => ∃ Vv Mv, Tab.Ok Mv ∧ Mv.n ≤ 6 ∧ BoxAt wc p1 Vt Mt ∧ BoxAt wc p2 Vv Mv ∧ Below w.heap.size w wc)
  case first =>
    by_cases hq : pv = 0
    · have hb : ((pv : Int) == 0) = true := by simp; omega
      have HWS : Hid (IntKind.i64.wrap ((Mt.n : Int) - 1) = ((Mt.n - 1 : Nat) : Int)) := wr_pred Mt.n szt.1 (by omega)
      have hlt : Mt.n - 1 < Mt.n := by have := szt.1; omega
      have hbd : BoxAt W2.drew p1 Vt Mt := ⟨bt_2.blk, ⟨bt_2.tab.acc, bt_2.tab.row, bt_2.tab.cel⟩⟩
      have hbe : BoxAt W2.drew p2 Vu Mu := ⟨bu_2.blk, ⟨bu_2.tab.acc, bu_2.tab.row, bu_2.tab.cel⟩⟩
      have hbl : Below w.heap.size w W2.drew := BB2.drew
      have hp2s : p2 < W2.heap.size := heap_lt bu_2.blk
      obtain ⟨y0, y1, _, _⟩ := cell_two bt_2.blk
      clear hq
      go_upto_region 4 with fail
      have hne1 : ¬ p1 = p2 := by omega
      have hne2 : ¬ p2 = p1 := by omega
      go_region_held3 (fun w' => w'.cell? ⟨p1, 0, none⟩ = some (.slice (some ⟨Vt.ba, Vt.oa, none⟩) Mt.n Vt.ca) ∧ w'.cell? ⟨p1, 1, none⟩ = some (.slice (some ⟨Vt.bn, Vt.on, none⟩) Mt.n Vt.cn)) (go_keep)
        ((first
        | (go_at_call 14; (try rw [HWS.out]); refine (from_ok U1 (swTab Mt (Mt.n - 1)) (Mt.n - 1) _ (swTab_ok okt hlt) hT1 hlt).mono ?_; rintro e wb ⟨U2, rfl, hT2, hF2, hBb⟩; have htb : BoxAt wb p1 Vt Mt := hta.below hBb; have hub : BoxAt wb p2 Vu Mu := hua.below hBb; have hlb : Below w.heap.size w wb := hla.trans (hBb.mono hla.size); obtain ⟨vb0, vb1, fb0, fb1⟩ := cell_two hub.blk; obtain ⟨vb2, vb3, _, _⟩ := cell_two htb.blk; have HFB : Hid (U2.From (p2 + 1) Mt.n) := hF2.mono (by have := hBa.size; simp at this; omega); have HTB : Hid _ := hT2; clear hT2 hF2)
        | (go_at_call 14; (try rw [HWS.out]); refine (from_ok Vt Mt (Mt.n - 1) _ okt hbd.tab hlt).mono ?_; rintro e wa ⟨U1, rfl, hT1, _, hBa⟩; have hta : BoxAt wa p1 Vt Mt := hbd.below hBa; have hua : BoxAt wa p2 Vu Mu := hbe.below hBa; have hla : Below w.heap.size w wa := hbl.trans (hBa.mono hbl.size); obtain ⟨va0, va1, _, _⟩ := cell_two hta.blk)))
      all_goals go_wp2_with fail
      all_goals go_meet
      all_goals exact ⟨U2, swTab (swTab Mt (Mt.n - 1)) (Mt.n - 1), swTab_ok (swTab_ok okt hlt) hlt, szt.2, box_keep htb hup hp12, box_put hub HTB.out HFB.out, below_res hlb (Nat.le_of_lt (Nat.lt_of_le_of_lt hlow hp12)) _ _⟩
    · have hb : ((pv : Int) == 0) = false := by simp; omega
      clear hq
      go_wp2_with fail
      go_meet
      exact ⟨Vu, Mu, oku, szu.2, HXT.out, HXU.out, HBB.out⟩
  case rest =>
    obtain ⟨Vv, Mv, okv, szv, BTC, BVC, BBC⟩ := hcut
    clear HXT HXU HBB bt_2 bu_2 BB2
    have b1x := BTC
    have b2x := BVC
    clear BTC BVC
    obtain ⟨x0, x1, _, _⟩ := cell_two b1x.blk
    obtain ⟨x2, x3, _, _⟩ := cell_two b2x.blk
    go_upto_region 5 with fail
    go_wp2_with fail
    refine (join_ok Vt Vv Mt Mv 3 40 wc okt okv b1x.tab b2x.tab (by omega) (by omega) (by omega) (by omega)).mono ?_
    rintro e w3 ⟨hB3, hc3⟩
    rcases hc3 with ⟨D, VD, hD, hDn, rfl, hTD, _⟩ | ⟨_, hlt, _⟩
    case inr => exfalso; have h40 : (40 : Int).toNat = 40 := rfl; have := Nat.mul_le_mul szt.2 szv; omega
    obtain ⟨W3, hW3⟩ : ∃ W, W = w3.alloc (.cells #[.slice (some ⟨VD.ba, VD.oa, none⟩) D.n VD.ca, .slice (some ⟨VD.bn, VD.on, none⟩) D.n VD.cn] 26) := ⟨_, rfl⟩
    have bd : BoxAt W3 w3.heap.size VD D := by rw [hW3]; exact BoxAt.new hTD
    have D3 : Below wc.heap.size wc W3 := by rw [hW3]; exact hB3.alloc hB3.size _
    have b1y := b1x.below D3
    have b2y := b2x.below D3
    have BB3 : Below w.heap.size w W3 := BBC.trans (D3.mono BBC.size)
    have okD := hD.ok hDn
    have HD : Hid (IsLeast D (fun x => joinB 3 (Mt.accepts x) (Mv.accepts x))) := hD
    clear hTD hB3 b1x b2x D3 x0 x1 x2 x3 BBC hD
    go_upto_region 6 with fail
    rw [← hW3]
    clear hW3
    generalize w3.heap.size = p3 at *
    obtain ⟨x0, x1, _, _⟩ := cell_two bd.blk
    go_wp2_with fail
    refine (first_ok VD D W3 okD bd.tab).mono ?_
    rintro e w4 ⟨hB4, hc4⟩
    have b1z := b1y.below hB4
    have b2z := b2y.below hB4
    have BB4 : Below w.heap.size w w4 := BB3.trans (hB4.mono BB3.size)
    clear bd b1y b2y hB4 x0 x1 BB3
    obtain ⟨xs, fo, he, HFO⟩ : ∃ (xs : ByteArray) (fo : Bool), e = .returned (.tuple #[.string xs, .bool fo, .int .i64 0]) ∧ Hid ((fo = true ∧ IsText xs ∧ xs.size ≤ 40 ∧ D.accepts (notesOf xs) = true ∧ ∀ y, Notes y → D.accepts y = true → sle (notesOf xs) y) ∨ (fo = false ∧ xs = ⟨#[]⟩ ∧ ∀ y, Notes y → D.accepts y = false)) := by
      rcases hc4 with ⟨s, rfl, h1, h2, h3, h4⟩ | ⟨rfl, h2⟩
      · exact ⟨s, true, rfl, .inl ⟨rfl, h1, h2, h3, h4⟩⟩
      · exact ⟨_, false, rfl, .inr ⟨rfl, rfl, h2⟩⟩
    subst he
    clear hc4
    obtain ⟨x0, x1, _, _⟩ := cell_two b1z.blk
    go_wp2_with fail
    refine (least_ok Vt Mt w4 okt b1z.tab).mono ?_
    rintro e w5 ⟨hB5, hc5⟩
    rcases hc5 with ⟨Mm, Vm, hm, hmn, rfl, hT5, _⟩ | ⟨_, hlt, _⟩
    case inr => exfalso; have := Nat.mul_le_mul szt.2 szt.2; omega
    obtain ⟨W5, hW5⟩ : ∃ W, W = w5.alloc (.cells #[.slice (some ⟨Vm.ba, Vm.oa, none⟩) Mm.n Vm.ca, .slice (some ⟨Vm.bn, Vm.on, none⟩) Mm.n Vm.cn] 26) := ⟨_, rfl⟩
    have bm : BoxAt W5 w5.heap.size Vm Mm := by rw [hW5]; exact BoxAt.new hT5
    have D5 : Below w4.heap.size w4 W5 := by rw [hW5]; exact hB5.alloc hB5.size _
    have b1a := b1z.below D5
    have b2a := b2z.below D5
    have BB5 : Below w.heap.size w W5 := BB4.trans (D5.mono BB4.size)
    have okm := hm.ok hmn
    have HMM : Hid (IsLeast Mm Mt.accepts) := hm
    clear hT5 hB5 b1z b2z D5 x0 x1 BB4 hm
    go_upto_region 8 with fail
    rw [← hW5]
    clear hW5
    generalize w5.heap.size = p5 at *
    obtain ⟨x0, x1, _, _⟩ := cell_two b2a.blk
    go_wp2_with fail
    refine (least_ok Vv Mv W5 okv b2a.tab).mono ?_
    rintro e w6 ⟨hB6, hc6⟩
    rcases hc6 with ⟨Mn, Vn, hn, hnn, rfl, hT6, _⟩ | ⟨_, hlt, _⟩
    case inr => exfalso; have := Nat.mul_le_mul szv szv; omega
    obtain ⟨W6, hW6⟩ : ∃ W, W = w6.alloc (.cells #[.slice (some ⟨Vn.ba, Vn.oa, none⟩) Mn.n Vn.ca, .slice (some ⟨Vn.bn, Vn.on, none⟩) Mn.n Vn.cn] 26) := ⟨_, rfl⟩
    have bn : BoxAt W6 w6.heap.size Vn Mn := by rw [hW6]; exact BoxAt.new hT6
    have D6 : Below W5.heap.size W5 W6 := by rw [hW6]; exact hB6.alloc hB6.size _
    have b1b := b1a.below D6
    have b2b := b2a.below D6
    have bm6 := bm.below D6
    have BB6 : Below w.heap.size w W6 := BB5.trans (D6.mono BB5.size)
    have okn := hn.ok hnn
    have HNN : Hid (IsLeast Mn Mv.accepts) := hn
    clear hT6 hB6 b1a b2a bm D6 x0 x1 BB5 hn
    go_upto_region 9 with fail
    rw [← hW6]
    clear hW6
    generalize w6.heap.size = p6 at *
    obtain ⟨x0, x1, _, _⟩ := cell_two bm6.blk
    obtain ⟨x2, x3, _, _⟩ := cell_two bn.blk
    go_wp2_with fail
    refine (same_ok Vm Vn Mm Mn W6 okm okn bm6.tab bn.tab).mono ?_
    rintro e w7 ⟨sb, rfl, hsb, hB7⟩
    have b1c := b1b.below hB7
    have b2c := b2b.below hB7
    have BB7 : Below w.heap.size w w7 := BB6.trans (hB7.mono BB6.size)
    -- found is not one
    have HFS : Hid (sb = !fo) := by
      unfold Hid
      rcases HFO.out with ⟨rfl, h1, h2, h3, h4⟩ | ⟨rfl, h1, h2⟩
      · rw [HD.out.lang _ (notes_of h1)] at h3
        show sb = false
        rw [Bool.eq_false_iff]
        intro e
        have hst := hsb.1 e
        have h5 := sameTab_accepts hst HMM.out.num HNN.out.num (notesOf xs) (notes_of h1)
        rw [HMM.out.lang _ (notes_of h1), HNN.out.lang _ (notes_of h1)] at h5
        rw [h5] at h3
        revert h3
        cases Mv.accepts (notesOf xs) <;> simp [joinB]
      · show sb = true
        rw [hsb]
        refine least_unique HMM.out ⟨HNN.out.num, HNN.out.apart, fun x hx => ?_⟩
        rw [HNN.out.lang x hx]
        have h3 := h2 x hx
        rw [HD.out.lang x hx] at h3
        revert h3
        cases Mt.accepts x <;> cases Mv.accepts x <;> simp [joinB]
    have HL : Hid (∀ x, Notes x → D.accepts x = joinB 3 (Mt.accepts x) (Mv.accepts x)) := HD.out.lang
    clear hB7 b1b b2b bm6 bn BB6 x0 x1 x2 x3 hsb HMM HNN HD
    have hfs := HFS.out
    subst hfs
    have hfb : (fo == !fo) = false := by cases fo <;> rfl
    clear HFS
    go_wp2_with fail
    refine (text_ok a3 l3 c3 z3 w7 (h3.below BB7)).mono ?_
    rintro e w8 ⟨ys, rfl, hys, hysl, hB8⟩
    have b1d := b1c.below hB8
    have b2d := b2c.below hB8
    have BB8 : Below w.heap.size w w8 := BB7.trans (hB8.mono BB7.size)
    clear b1c b2c hB8 BB7
    obtain ⟨x0, x1, _, _⟩ := cell_two b1d.blk
    go_wp2_with fail
    refine (run_ok Vt Mt ys w8 okt b1d.tab hys hysl).mono ?_
    rintro e w9 ⟨rfl, hB9⟩
    have b1e := b1d.below hB9
    have b2e := b2d.below hB9
    have BB9 : Below w.heap.size w w9 := BB8.trans (hB9.mono BB8.size)
    clear b1d b2d hB9 BB8 x0 x1
    obtain ⟨x0, x1, _, _⟩ := cell_two b2e.blk
    go_wp2_with fail
    refine (run_ok Vv Mv ys w9 okv b2e.tab hys hysl).mono ?_
    rintro e w10 ⟨rfl, hB10⟩
    have b1f := b1e.below hB10
    have b2f := b2e.below hB10
    have BB10 : Below w.heap.size w w10 := BB9.trans (hB10.mono BB9.size)
    clear b1e b2e hB10 BB9 x0 x1
    rcases HFO.out with ⟨rfl, hx, hxl, hxa, hxm⟩ | ⟨rfl, rfl, hno⟩
    · have HXM : Hid (∀ y, Notes y → D.accepts y = true → sle (notesOf xs) y) := hxm
      rw [HL.out _ (notes_of hx)] at hxa
      have HXA : Hid _ := hxa
      clear hxm hxa HFO
      have HNA : Hid (Mt.accepts (notesOf ys) ≠ Mv.accepts (notesOf ys) → ¬ ys.size < xs.size ∧ (ys.size = xs.size → Op.bytesLess ys.toList xs.toList = false)) := by
        intro hne
        refine not_ahead hx hys (HXM.out _ (notes_of hys) ?_)
        rw [HL.out _ (notes_of hys)]
        revert hne
        cases Mt.accepts (notesOf ys) <;> cases Mv.accepts (notesOf ys) <;> simp [joinB]
      obtain ⟨x0, x1, _, _⟩ := cell_two b1f.blk
      go_wp2_with fail
      refine (run_ok Vt Mt xs w10 okt b1f.tab hx (by omega)).mono ?_
      rintro e w11 ⟨rfl, hB11⟩
      have b2g := b2f.below hB11
      have BB11 : Below w.heap.size w w11 := BB10.trans (hB11.mono BB10.size)
      clear b1f b2f hB11 BB10 x0 x1
      obtain ⟨x0, x1, _, _⟩ := cell_two b2g.blk
      go_wp2_with fail
      refine (run_ok Vv Mv xs w11 okv b2g.tab hx (by omega)).mono ?_
      rintro e w12 ⟨rfl, hB12⟩
      have BB12 : Below w.heap.size w w12 := BB11.trans (hB12.mono BB11.size)
      have hca := HXA.out
      have hna := HNA.out
      clear b2g hB12 BB11 x0 x1 HXA HNA HXM HL
      generalize Mt.accepts (notesOf xs) = cm at *
      generalize Mv.accepts (notesOf xs) = cv at *
      generalize Mt.accepts (notesOf ys) = am at *
      generalize Mv.accepts (notesOf ys) = an at *
      have hcb : (cm != cv) = true := by revert hca; cases cm <;> cases cv <;> simp [joinB]
      have hcb2 : (cm == cv) = false := by revert hcb; cases cm <;> cases cv <;> simp
      clear hca
      have hsx : xs.size ≤ 1000 := by omega
      by_cases hab : am = an
      · subst hab
        clear hna
        rcases Nat.lt_trichotomy ys.size xs.size with h | h | h
        · go_wp2_with fail
          go_ret
          exact ⟨ret_bool (by simp), BB12⟩
        · have hbe : ((ys.size : Int) == (xs.size : Int)) = true := by simp; omega
          have hnl : ¬ ys.size < xs.size := by omega
          clear h
          generalize hbl : Op.bytesLess ys.toList xs.toList = bl at *
          go_wp2_with fail
          all_goals go_ret
          all_goals exact ⟨ret_bool (by simp), BB12⟩
        · have hbe : ((ys.size : Int) == (xs.size : Int)) = false := by simp; omega
          go_wp2_with fail
          go_ret
          exact ⟨ret_bool (by simp), BB12⟩
      · obtain ⟨hnl, hbl⟩ := hna hab
        have hab2 : (am == an) = false := by revert hab; cases am <;> cases an <;> simp
        clear hna hab
        by_cases h : ys.size = xs.size
        · have hbe : ((ys.size : Int) == (xs.size : Int)) = true := by simp; omega
          have hbf := hbl h
          clear hbl h
          go_wp2_with fail
          all_goals go_ret
          all_goals exact ⟨ret_bool (by simp), BB12⟩
        · have hbe : ((ys.size : Int) == (xs.size : Int)) = false := by simp; omega
          clear hbl
          go_wp2_with fail
          all_goals go_ret
          all_goals exact ⟨ret_bool (by simp), BB12⟩
    · have hnn2 := hno _ (notes_of hys)
      rw [HL.out _ (notes_of hys)] at hnn2
      clear hno HFO
      generalize Mt.accepts (notesOf ys) = am at *
      generalize Mv.accepts (notesOf ys) = an at *
      have hab : am = an := by revert hnn2; cases am <;> cases an <;> simp [joinB]
      subst hab
      go_wp2_with fail
      go_ret
      exact ⟨ret_bool (by simp), BB10⟩
end Go.Proofs.Ytpngikmcjkjdaaa
