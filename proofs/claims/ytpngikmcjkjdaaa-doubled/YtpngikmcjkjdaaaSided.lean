import Derived.Test.YtpngikmcjkjdaaaText
import Derived.Test.YtpngikmcjkjdaaaSame
import Derived.Test.YtpngikmcjkjdaaaNumb
namespace Go.Proofs.Ytpngikmcjkjdaaa
open Go.RowKit
set_option linter.unusedVariables false

/-- A variable that holds a table. -/
structure BoxAt (w : World) (b : Nat) (V : Lay) (M : Tab) : Prop where
  blk : w.heap[b]? = some (.cells #[.slice (some ⟨V.ba, V.oa, none⟩) M.n V.ca, .slice (some ⟨V.bn, V.on, none⟩) M.n V.cn] 26 (0, 0))
  tab : TabAt w V M
theorem BoxAt.below {w w' : World} {b : Nat} {V : Lay} {M : Tab} (h : BoxAt w b V M) (hb : Below w.heap.size w w') : BoxAt w' b V M :=
  ⟨by rw [hb.block _ (heap_lt h.blk)]; exact h.blk, h.tab.below hb⟩
theorem BoxAt.new {w : World} {V : Lay} {M : Tab} (h : TabAt w V M) : BoxAt (w.alloc (.cells #[.slice (some ⟨V.ba, V.oa, none⟩) M.n V.ca, .slice (some ⟨V.bn, V.on, none⟩) M.n V.cn] 26)) w.heap.size V M :=
  ⟨heap_at_new rfl, h.below ((Below.refl _ _).alloc (Nat.le_refl _) _)⟩
theorem IsLeast.ok {R : Tab} {L : List Nat → Bool} (h : IsLeast R L) (hn : R.n ≤ 40) : R.Ok := ⟨h.num.pos, hn, h.num.nx⟩
theorem joinB_comm (how : Int) (a b : Bool) (h : how ≠ 2) : joinB how a b = joinB how b a := by
  unfold joinB
  split
  · exact Bool.and_comm a b
  · split
    · exact Bool.or_comm a b
    · cases a <;> cases b <;> rfl

set_option maxRecDepth 20000 in
set_option maxHeartbeats 2000000 in
theorem sided_walk (a1 a2 a3 : Option Addr) (l1 l2 l3 c1 c2 c3 : Nat) (z1 z2 z3 : Nat → Int) (way : Int) (w : World) (h1 : CodeAt w a1 l1 z1) (h2 : CodeAt w a2 l2 z2) (h3 : CodeAt w a3 l3 z3) (hw0 : -9223372036854775808 ≤ way) (hw1 : way ≤ 9223372036854775807) :
    Calls Try.prog 5 #[.slice a1 l1 c1, .slice a2 l2 c2, .slice a3 l3 c3, .int .i64 way] w fun e w' => e = .returned (.bool true) ∧ Below w.heap.size w w' := by
  go_enter Try.func5, Try.ntmps5
  -- t
  go_wp2_with fail
  refine (table_ok a1 l1 c1 z1 w h1).mono ?_
  rintro e w1 ⟨V, rfl, hV, hB1⟩
  obtain ⟨W1, hW1⟩ : ∃ W, W = w1.alloc (.cells #[.slice (some ⟨V.ba, V.oa, none⟩) (codeTab l1 z1).n V.ca, .slice (some ⟨V.bn, V.on, none⟩) (codeTab l1 z1).n V.cn] 26) := ⟨_, rfl⟩
  have bt : BoxAt W1 w1.heap.size V (codeTab l1 z1) := by rw [hW1]; exact BoxAt.new hV
  have BB1 : Below w.heap.size w W1 := by rw [hW1]; exact hB1.alloc hB1.size _
  have hM := codeTab_ok l1 z1
  have hM6 := codeTab_n l1 z1
  clear hV hB1
  go_upto_region 2 with fail
  rw [← hW1]
  clear hW1
  generalize w1.heap.size = p1 at *
  generalize codeTab l1 z1 = M at *
  -- u
  go_wp2_with fail
  refine (table_ok a2 l2 c2 z2 W1 (h2.below BB1)).mono ?_
  rintro e w2 ⟨U, rfl, hU, hB2⟩
  obtain ⟨W2, hW2⟩ : ∃ W, W = w2.alloc (.cells #[.slice (some ⟨U.ba, U.oa, none⟩) (codeTab l2 z2).n U.ca, .slice (some ⟨U.bn, U.on, none⟩) (codeTab l2 z2).n U.cn] 26) := ⟨_, rfl⟩
  have bu : BoxAt W2 w2.heap.size U (codeTab l2 z2) := by rw [hW2]; exact BoxAt.new hU
  have B12 : Below W1.heap.size W1 W2 := by rw [hW2]; exact hB2.alloc hB2.size _
  have bt2 := bt.below B12
  have BB2 : Below w.heap.size w W2 := BB1.trans (B12.mono BB1.size)
  have hN := codeTab_ok l2 z2
  have hN6 := codeTab_n l2 z2
  clear hU hB2 bt B12
  go_upto_region 3 with fail
  rw [← hW2]
  clear hW2
  generalize w2.heap.size = p2 at *
  generalize codeTab l2 z2 = N at *
  -- x
  go_wp2_with fail
  refine (text_ok a3 l3 c3 z3 W2 (h3.below BB2)).mono ?_
  rintro e w3 ⟨s, rfl, hs, hsl, hB3⟩
  have bt3 := bt2.below hB3
  have bu3 := bu.below hB3
  have BB3 : Below w.heap.size w w3 := BB2.trans (hB3.mono BB2.size)
  clear bt2 bu hB3 BB2 h1 h2 h3 BB1
  -- how
  go_wp2_with fail
  refine (pick_any way 4 _ (by omega) (by omega) hw0 hw1).mono ?_
  rw [show (4 : Int).toNat = 4 from rfl]
  rintro e w' ⟨rfl, hw'⟩
  obtain rfl : w3 = w' := hw'.symm
  have hh4 := pickN_lt way 4 (by omega)
  generalize pickN way 4 = how at *
  -- j
  obtain ⟨x0, x1, _, _⟩ := cell_two bt3.blk
  obtain ⟨x2, x3, _, _⟩ := cell_two bu3.blk
  go_wp2_with fail
  refine (join_ok V U M N how 40 w3 hM hN bt3.tab bu3.tab (by omega) (by omega) (by omega) (by omega)).mono ?_
  rintro e w4 ⟨hB4, hc4⟩
  have hmn : M.n * N.n ≤ 36 := Nat.mul_le_mul hM6.2 hN6.2
  rcases hc4 with ⟨R, VJ, hR, hRn, rfl, hTJ, _⟩ | ⟨_, hlt, _⟩
  case inr => exfalso; have : (40 : Int).toNat = 40 := rfl; omega
  obtain ⟨W4, hW4⟩ : ∃ W, W = w4.alloc (.cells #[.slice (some ⟨VJ.ba, VJ.oa, none⟩) R.n VJ.ca, .slice (some ⟨VJ.bn, VJ.on, none⟩) R.n VJ.cn] 26) := ⟨_, rfl⟩
  have bj : BoxAt W4 w4.heap.size VJ R := by rw [hW4]; exact BoxAt.new hTJ
  have B34 : Below w3.heap.size w3 W4 := by rw [hW4]; exact hB4.alloc hB4.size _
  have bt4 := bt3.below B34
  have bu4 := bu3.below B34
  have BB4 : Below w.heap.size w W4 := BB3.trans (B34.mono BB3.size)
  have hRo := hR.ok hRn
  clear hTJ hB4 bt3 bu3 B34 x0 x1 x2 x3 BB3
  go_upto_region 6 with fail
  rw [← hW4]
  clear hW4
  generalize w4.heap.size = p4 at *
  -- k
  obtain ⟨x0, x1, _, _⟩ := cell_two bt4.blk
  obtain ⟨x2, x3, _, _⟩ := cell_two bu4.blk
  go_wp2_with fail
  refine (join_ok U V N M how 40 W4 hN hM bu4.tab bt4.tab (by omega) (by omega) (by omega) (by omega)).mono ?_
  rintro e w5 ⟨hB5, hc5⟩
  rcases hc5 with ⟨Q, VK, hQ, hQn, rfl, hTK, _⟩ | ⟨_, hlt, _⟩
  case inr => exfalso; have : (40 : Int).toNat = 40 := rfl; rw [Nat.mul_comm] at hlt; omega
  obtain ⟨W5, hW5⟩ : ∃ W, W = w5.alloc (.cells #[.slice (some ⟨VK.ba, VK.oa, none⟩) Q.n VK.ca, .slice (some ⟨VK.bn, VK.on, none⟩) Q.n VK.cn] 26) := ⟨_, rfl⟩
  have bk : BoxAt W5 w5.heap.size VK Q := by rw [hW5]; exact BoxAt.new hTK
  have B45 : Below W4.heap.size W4 W5 := by rw [hW5]; exact hB5.alloc hB5.size _
  have bt5 := bt4.below B45
  have bu5 := bu4.below B45
  have bj5 := bj.below B45
  have BB5 : Below w.heap.size w W5 := BB4.trans (B45.mono BB4.size)
  have hQo := hQ.ok hQn
  clear hTK hB5 bt4 bu4 bj B45 x0 x1 x2 x3 BB4
  go_upto_region 7 with fail
  rw [← hW5]
  clear hW5
  generalize w5.heap.size = p5 at *
  -- a, b, c
  obtain ⟨x0, x1, _, _⟩ := cell_two bt5.blk
  go_wp2_with fail
  refine (run_ok V M s W5 hM bt5.tab hs hsl).mono ?_
  rintro e w6 ⟨rfl, hB6⟩
  have bt6 := bt5.below hB6
  have bu6 := bu5.below hB6
  have bj6 := bj5.below hB6
  have bk6 := bk.below hB6
  have BB6 : Below w.heap.size w w6 := BB5.trans (hB6.mono BB5.size)
  clear bt5 bu5 bj5 bk hB6 BB5 x0 x1
  obtain ⟨x2, x3, _, _⟩ := cell_two bu6.blk
  go_wp2_with fail
  refine (run_ok U N s w6 hN bu6.tab hs hsl).mono ?_
  rintro e w7 ⟨rfl, hB7⟩
  have bj7 := bj6.below hB7
  have bk7 := bk6.below hB7
  have BB7 : Below w.heap.size w w7 := BB6.trans (hB7.mono BB6.size)
  clear bt6 bu6 bj6 bk6 hB7 BB6 x2 x3
  obtain ⟨x0, x1, _, _⟩ := cell_two bj7.blk
  go_wp2_with fail
  refine (run_ok VJ R s w7 hRo bj7.tab hs hsl).mono ?_
  rw [hR.lang _ (notes_of hs)]
  generalize M.accepts (notesOf s) = am at *
  generalize N.accepts (notesOf s) = an at *
  rintro e w8 ⟨rfl, hB8⟩
  have bj8 := bj7.below hB8
  have bk8 := bk7.below hB8
  have BB8 : Below w.heap.size w w8 := BB7.trans (hB8.mono BB7.size)
  clear bj7 bk7 hB8 BB7 x0 x1
  obtain ⟨x0, x1, _, _⟩ := cell_two bj8.blk
  obtain ⟨x2, x3, _, _⟩ := cell_two bk8.blk
  go_wp2_with fail
  refine (same_ok VJ VK R Q w8 hRo hQo bj8.tab bk8.tab).mono ?_
  rintro e w9 ⟨sb, rfl, hsb, hB9⟩
  have bj9 := bj8.below hB9
  have BB9 : Below w.heap.size w w9 := BB8.trans (hB9.mono BB8.size)
  clear bj8 bk8 hB9 BB8 x0 x1 x2 x3
  obtain ⟨x0, x1, _, _⟩ := cell_two bj9.blk
  have hnum := hR.num
  go_wp2_with fail
  refine (numbered_ok VJ R w9 hRo bj9.tab hnum).mono ?_
  rintro e w10 ⟨rfl, hB10⟩
  have BB10 : Below w.heap.size w w10 := BB9.trans (hB10.mono BB9.size)
  clear bj9 hB10 BB9 x0 x1 hnum
  have hfin : sb = true ∨ how = 2 := by
    by_cases e : how = 2
    · exact .inr e
    · left
      rw [hsb]
      refine least_unique hR ⟨hQ.num, hQ.apart, fun x hx => ?_⟩
      rw [hQ.lang x hx]
      exact joinB_comm _ _ _ (by omega)
  clear hsb hR hQ
  rcases hfin with rfl | rfl
  · go_wp2_with fail
    refine (kjoined_ok am an how w10 (by omega) (by omega)).mono ?_
    rintro e w' ⟨rfl, hw'⟩
    obtain rfl : w10 = w' := hw'.symm
    go_wp2_with fail
    go_ret
    exact ⟨ret_bool (by simp), BB10⟩
  · go_wp2_with fail
    refine (kjoined_ok am an _ w10 (by omega) (by omega)).mono ?_
    rintro e w' ⟨rfl, hw'⟩
    obtain rfl : w10 = w' := hw'.symm
    cases sb
    all_goals
      go_wp2_with fail
      go_ret
      exact ⟨ret_bool (by simp), BB10⟩
end Go.Proofs.Ytpngikmcjkjdaaa
