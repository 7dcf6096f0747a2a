import Derived.Test.YtpngikmcjkjdaaaFirst
import Derived.Test.YtpngikmcjkjdaaaFrom
namespace Go.Proofs.Ytpngikmcjkjdaaa
open Go.RowKit
set_option linter.unusedVariables false

set_option maxRecDepth 20000 in
set_option maxHeartbeats 2000000 in
theorem parted_ok (V U : Lay) (M N : Tab) (w : World) (hM : M.Ok) (hN : N.Ok) (hV : TabAt w V M) (hU : TabAt w U N) (hmn : M.n * N.n ≤ 40) (hd : ∃ x, Notes x ∧ M.accepts x ≠ N.accepts x) :
    Calls Try.prog 13 #[.agg #[.slice (some ⟨V.ba, V.oa, none⟩) M.n V.ca, .slice (some ⟨V.bn, V.on, none⟩) M.n V.cn], .agg #[.slice (some ⟨U.ba, U.oa, none⟩) N.n U.ca, .slice (some ⟨U.bn, U.on, none⟩) N.n U.cn]] w
      fun e w' => e = .returned (.bool true) ∧ Below w.heap.size w w' := by
  obtain ⟨W, hW⟩ : ∃ W, W = (w.alloc (.cells #[.slice (some ⟨V.ba, V.oa, none⟩) M.n V.ca, .slice (some ⟨V.bn, V.on, none⟩) M.n V.cn] 26)).alloc (.cells #[.slice (some ⟨U.ba, U.oa, none⟩) N.n U.ca, .slice (some ⟨U.bn, U.on, none⟩) N.n U.cn] 26) := ⟨_, rfl⟩
  have BB0 : Below w.heap.size w W := by
    rw [hW]; exact ((Below.refl _ _).alloc (Nat.le_refl _) _).alloc (by simp) _
  have bt : BoxAt W w.heap.size V M := ⟨by rw [hW]; exact heap_at_old (heap_at_new (by simp)), hV.below BB0⟩
  have bu : BoxAt W (w.heap.size + 1) U N := ⟨by rw [hW]; exact heap_at_new (by simp), hU.below BB0⟩
  have HD : Hid (∃ x, Notes x ∧ M.accepts x ≠ N.accepts x) := hd
  clear hd hV hU
  go_enter Try.func13, Try.ntmps13
  go_upto_region 1 with fail
  rw [← hW]
  clear hW
  generalize hp2 : w.heap.size + 1 = p2 at *
  generalize hp1 : w.heap.size = p1 at *
  have HP1 : Hid (w.heap.size = p1) := hp1
  clear hp1 hp2
  obtain ⟨x0, x1, _, _⟩ := cell_two bt.blk
  obtain ⟨x2, x3, _, _⟩ := cell_two bu.blk
  go_wp2_with fail
  refine (join_ok V U M N 3 40 W hM hN bt.tab bu.tab (by omega) (by omega) (by omega) (by omega)).mono ?_
  rintro e w4 ⟨hB4, hc4⟩
  rcases hc4 with ⟨D, VD, hR, hRn, rfl, hTJ, _⟩ | ⟨_, hlt, _⟩
  case inr => exfalso; have h40 : (40 : Int).toNat = 40 := rfl; omega
  obtain ⟨W4, hW4⟩ : ∃ W, W = w4.alloc (.cells #[.slice (some ⟨VD.ba, VD.oa, none⟩) D.n VD.ca, .slice (some ⟨VD.bn, VD.on, none⟩) D.n VD.cn] 26) := ⟨_, rfl⟩
  have bd : BoxAt W4 w4.heap.size VD D := by rw [hW4]; exact BoxAt.new hTJ
  have B34 : Below W.heap.size W W4 := by rw [hW4]; exact hB4.alloc hB4.size _
  have bt4 := bt.below B34
  have bu4 := bu.below B34
  have BB4 : Below p1 w W4 := BB0.trans (B34.mono (by rw [← HP1.out]; have := BB0.size; omega))
  have hDo := hR.ok hRn
  have HR : Hid _ := hR
  clear hTJ hB4 bt bu x0 x1 x2 x3 BB0 hR
  go_upto_region 2 with fail
  rw [← hW4]
  clear hW4
  generalize w4.heap.size = p4 at *
  obtain ⟨x0, x1, _, _⟩ := cell_two bd.blk
  go_wp2_with fail
  refine (first_ok VD D W4 hDo bd.tab).mono ?_
  rintro e w5 ⟨hB5, hc5⟩
  rcases hc5 with ⟨s, rfl, hs, hsl, hsa, _⟩ | ⟨_, hno⟩
  case inr =>
    exfalso
    obtain ⟨x, hx, hne⟩ := HD.out
    have h1 := hno x hx
    rw [HR.out.lang x hx] at h1
    apply hne
    revert h1
    cases M.accepts x <;> cases N.accepts x <;> simp [joinB]
  have bt5 := bt4.below hB5
  have bu5 := bu4.below hB5
  have BB5 : Below p1 w w5 := BB4.trans (hB5.mono (by rw [← HP1.out]; have := BB4.size; omega))
  have hdf := hsa
  rw [HR.out.lang _ (notes_of hs)] at hdf
  have HDF : Hid (M.accepts (notesOf s) ≠ N.accepts (notesOf s)) := by
    intro e
    rw [e] at hdf
    revert hdf
    cases N.accepts (notesOf s) <;> simp [joinB]
  clear hB5 bt4 bu4 bd BB4 x0 x1 hdf hsa
  obtain ⟨x0, x1, _, _⟩ := cell_two bt5.blk
  go_wp2_with fail
  refine (run_ok V M s w5 hM bt5.tab hs (by omega)).mono ?_
  rintro e w6 ⟨rfl, hB6⟩
  have bu6 := bu5.below hB6
  have BB6 : Below p1 w w6 := BB5.trans (hB6.mono (by rw [← HP1.out]; have := BB5.size; omega))
  clear bt5 bu5 hB6 BB5 x0 x1
  obtain ⟨x2, x3, _, _⟩ := cell_two bu6.blk
  go_wp2_with fail
  refine (run_ok U N s w6 hN bu6.tab hs (by omega)).mono ?_
  rintro e w7 ⟨rfl, hB7⟩
  have BB7 : Below p1 w w7 := BB6.trans (hB7.mono (by rw [← HP1.out]; have := BB6.size; omega))
  have hdf := HDF.out
  generalize M.accepts (notesOf s) = am at *
  generalize N.accepts (notesOf s) = an at *
  have hbn : (am != an) = true := by simpa using hdf
  have hbn2 : (am == an) = false := by simpa using hdf
  clear bu6 hB7 BB6 x2 x3 HDF hdf HR HD
  go_wp2_with fail
  go_ret
  exact ⟨ret_bool (by simp), by rw [HP1.out]; exact BB7⟩
end Go.Proofs.Ytpngikmcjkjdaaa
