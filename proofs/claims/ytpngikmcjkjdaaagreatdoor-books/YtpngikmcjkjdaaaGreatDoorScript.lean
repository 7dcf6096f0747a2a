import Derived.Test.YtpngikmcjkjdaaaGreatDoorPlays
import Derived.OpenShut
import Derived.Deep.Slices
import Derived.SizedLaws
namespace Go.Proofs.YtpngikmcjkjdaaaGreatDoor
open Go.RowKit Go.ChangeShapes Go.WideShapes Go.Deep
set_option linter.unusedVariables false

section
variable {H : Type} {enc : TypeId × Value → H} {P : Program} {w : World} {base : Nat} {spare : Nat → Bool} {held : Bool}
theorem trod_struct7 {t : TypeId} {f0 f1 f2 f3 f4 f5 f6 : Field} {fuel : Nat} {cs : List Value} {x : DataW H × List MemPlace} (ht : P.underlying t = some (.struct #[f0, f1, f2, f3, f4, f5, f6])) (h : DataW.trod enc P w base spare held fuel t cs = some x) :
    ∃ y0 y1 y2 y3 y4 y5 y6 n, x.1 = .agg [y0.1, y1.1, y2.1, y3.1, y4.1, y5.1, y6.1] ∧ cs.length = P.cellsOf t ∧ DataW.trod enc P w base spare held n f0.type ((cs.drop f0.offset).take (P.cellsOf f0.type)) = some y0 ∧
      DataW.trod enc P w base spare held n f1.type ((cs.drop f1.offset).take (P.cellsOf f1.type)) = some y1 ∧ DataW.trod enc P w base spare held n f2.type ((cs.drop f2.offset).take (P.cellsOf f2.type)) = some y2 ∧
      DataW.trod enc P w base spare held n f3.type ((cs.drop f3.offset).take (P.cellsOf f3.type)) = some y3 ∧ DataW.trod enc P w base spare held n f4.type ((cs.drop f4.offset).take (P.cellsOf f4.type)) = some y4 ∧
      DataW.trod enc P w base spare held n f5.type ((cs.drop f5.offset).take (P.cellsOf f5.type)) = some y5 ∧ DataW.trod enc P w base spare held n f6.type ((cs.drop f6.offset).take (P.cellsOf f6.type)) = some y6 := by
  obtain ⟨xs, n, _, rfl, hl, hlen, hf⟩ := DataW.trod_struct ht h
  match xs, hlen with
  | [y0, y1, y2, y3, y4, y5, y6], _ => exact ⟨y0, y1, y2, y3, y4, y5, y6, n, by simp, hl, by simpa using hf 0 f0 rfl, by simpa using hf 1 f1 rfl, by simpa using hf 2 f2 rfl, by simpa using hf 3 f3 rfl, by simpa using hf 4 f4 rfl, by simpa using hf 5 f5 rfl, by simpa using hf 6 f6 rfl⟩
theorem weights_all {P : Program} {e : TypeId} : ∀ (l : List (DataW H)) (d : DataW H), d ∈ l → ∀ n ∈ d.weights P e, n ∈ DataW.weightsAll P e l := by
  intro l
  induction l with
  | nil => intro d hd; simp at hd
  | cons x l ih =>
    intro d hd n hn
    simp only [DataW.weightsAll, List.mem_append]
    simp only [List.mem_cons] at hd
    rcases hd with rfl | hd
    · exact .inl hn
    · exact .inr (ih d hd n hn)
end
theorem addr_add (b o n : Nat) : (⟨b, o, none⟩ : Addr).add n = ⟨b, o + n, none⟩ := by unfold Addr.add; split <;> simp_all
theorem addr_spot {W : World} {a : Addr} {v : Value} (h : W.cell? a = some v) : a.spot = none := World.cell?_spot h
theorem Tryz.cellsOp : Tryz.prog.cellsOf 33 = 7 := by kernel_rfl
theorem Tryz.cellsInt : Tryz.prog.cellsOf 3 = 1 := by kernel_rfl
theorem Tryz.cellsStr : Tryz.prog.cellsOf 9 = 1 := by kernel_rfl
theorem Tryz.cellsInts : Tryz.prog.cellsOf 24 = 1 := by kernel_rfl
theorem Tryz.bytesOp : Tryz.prog.bytesOf 33 = 80 := by kernel_rfl
theorem Tryz.bytesInt : Tryz.prog.bytesOf 3 = 8 := by kernel_rfl

/-- One step's parts. -/
structure OpRec where
  (kd fa fb fc fd : Int)
  (st : ByteArray)
  (lo : Option Addr)
  (ll lc : Nat)
  (z : Nat → Int)
structure OpRec.At (w : World) (b o : Nat) (r : OpRec) : Prop where
  c0 : w.cell? ⟨b, o, none⟩ = some (.int .i64 r.kd)
  c1 : w.cell? ⟨b, o + 1, none⟩ = some (.int .i64 r.fa)
  c2 : w.cell? ⟨b, o + 2, none⟩ = some (.int .i64 r.fb)
  c3 : w.cell? ⟨b, o + 3, none⟩ = some (.int .i64 r.fc)
  c4 : w.cell? ⟨b, o + 4, none⟩ = some (.int .i64 r.fd)
  c5 : w.cell? ⟨b, o + 5, none⟩ = some (.string r.st)
  c6 : w.cell? ⟨b, o + 6, none⟩ = some (.slice r.lo r.ll r.lc)
  ra : -9223372036854775808 ≤ r.fa ∧ r.fa ≤ 9223372036854775807
  rb : -9223372036854775808 ≤ r.fb ∧ r.fb ≤ 9223372036854775807
  rc : -9223372036854775808 ≤ r.fc ∧ r.fc ≤ 9223372036854775807
  str : r.st.size ≤ maxLen
  lst : LCode w r.lo r.ll r.z

set_option maxRecDepth 20000 in
/-- The script that came in. -/
theorem open_ops {H : Type} {enc : TypeId × Value → H} {W : World} {ao : Option Addr} {len cap : Nat} {d : DataW H} {p : List MemPlace} {ts : List TypeId} {ds : List (DataW H)}
    (h : DataW.Trod enc Tryz.prog W 0 (fun _ => true) true 22 (.slice ao len cap) d p) (hr : (DataW.weightsEach Tryz.prog ts ds).all (· ≤ reachBytes) = true) (ht : ts[0]? = some 22) (hd : ds[0]? = some d) :
    ∃ r : Nat → OpRec, len ≤ 4398046511104 ∧ ∀ i, i < len → ∃ b o, ao = some ⟨b, o, none⟩ ∧ (r i).At W b (o + i * 7) := by
  obtain ⟨fuel, hf⟩ := h
  rcases open_slice Tryz.underlying22 hf with ⟨hcs, _⟩ | ⟨a, l, c, m, n, D, Pl, hcs, _, hl, hm, hmm, hx, hall⟩
  · simp [Value.cells] at hcs
    obtain ⟨rfl, rfl, rfl⟩ := hcs
    exact ⟨fun _ => ⟨0, 0, 0, 0, 0, ⟨#[]⟩, none, 0, 0, fun _ => 0⟩, by omega, fun i hi => absurd hi (by omega)⟩
  · simp [Value.cells] at hcs
    obtain ⟨rfl, rfl, rfl⟩ := hcs
    simp only [Prod.mk.injEq] at hx
    obtain ⟨rfl, rfl⟩ := hx
    have hb := sized_slice hr ht hd Tryz.underlying22
    rw [Tryz.bytesOp] at hb
    simp only [List.length_map, List.length_range] at hb
    have hrb := reachBytes_lt
    simp only [if_true] at hmm
    subst hmm
    have hone : ∀ i, ∃ r : OpRec, i < len → ∃ b o, a = ⟨b, o, none⟩ ∧ r.At W b (o + i * 7) := by
      intro i
      by_cases hi : i < len
      · obtain ⟨cs, hcs, ht2⟩ := hall i (by omega)
        obtain ⟨_, hcl, hcell⟩ := World.cells?_some hcs
        rw [Tryz.cellsOp] at hcell hcl
        obtain ⟨y0, y1, y2, y3, y4, y5, y6, n2, hD, _, t0, t1, t2, t3, t4, t5, t6⟩ := trod_struct7 Tryz.underlying33 ht2
        simp only [Tryz.cellsInt, Tryz.cellsStr, Tryz.cellsInts] at t0 t1 t2 t3 t4 t5 t6
        match cs, hcl with
        | [v0, v1, v2, v3, v4, v5, v6], _ =>
          simp only [List.drop, List.take] at t0 t1 t2 t3 t4 t5 t6
          obtain ⟨k0, e0, _, _⟩ := DataW.trod_int Tryz.underlying3 t0
          obtain ⟨k1, e1, _, w1⟩ := DataW.trod_int Tryz.underlying3 t1
          obtain ⟨k2, e2, _, w2⟩ := DataW.trod_int Tryz.underlying3 t2
          obtain ⟨k3, e3, _, w3⟩ := DataW.trod_int Tryz.underlying3 t3
          obtain ⟨k4, e4, _, w4⟩ := DataW.trod_int Tryz.underlying3 t4
          obtain ⟨s5, e5, _, w5⟩ := DataW.trod_string Tryz.underlying9 t5
          simp only [List.cons.injEq, and_true] at e0 e1 e2 e3 e4 e5
          subst e0; subst e1; subst e2; subst e3; subst e4; subst e5
          obtain ⟨ab, ao, spot⟩ := a
          have hspot : spot = none := by
            obtain ⟨cs0, hcs0, _⟩ := hall 0 (by omega)
            obtain ⟨_, hl0, hc0⟩ := World.cells?_some hcs0
            rw [Tryz.cellsOp] at hl0 hc0
            have h00 := hc0 0 (by omega)
            rw [List.getElem?_eq_getElem (show 0 < cs0.length by omega), Nat.zero_mul] at h00
            exact addr_spot (a := ⟨ab, ao, spot⟩) (by simpa [Addr.add] using h00)
          subst hspot
          have hadd : ∀ j, ((⟨ab, ao, none⟩ : Addr).add (i * Tryz.prog.cellsOf 33)).add j = ⟨ab, ao + i * 7 + j, none⟩ := fun j => by rw [Tryz.cellsOp, addr_add, addr_add]
          have hc : ∀ j, j < 7 → W.cell? ⟨ab, ao + i * 7 + j, none⟩ = [Value.int .i64 k0, .int .i64 k1, .int .i64 k2, .int .i64 k3, .int .i64 k4, .string s5, v6][j]? := fun j hj => by rw [← hadd j, Tryz.cellsOp]; exact hcell j hj
          obtain ⟨lo, ll, lc, z, rfl, hL⟩ : ∃ lo ll lc z, v6 = .slice lo ll lc ∧ LCode W lo ll z := by
            rcases open_slice Tryz.underlying24 t6 with ⟨h6, _⟩ | ⟨a6, l6, c6, m6, n6, D6, P6, h6, _, hl6, hm6, hmm6, hx6, hall6⟩
            · simp only [List.cons.injEq, and_true] at h6
              exact ⟨none, 0, 0, fun _ => 0, h6, by omega, fun t ht => absurd ht (by omega)⟩
            · simp only [List.cons.injEq, and_true] at h6
              simp only [if_true] at hmm6
              subst hmm6
              have hy6 : y6.1 = .slice ((List.range l6).map D6) ((List.range (m6 - l6)).map fun j => D6 (l6 + j)) := by rw [hx6]
              have hwt : (l6 + (m6 - l6)) * Tryz.prog.bytesOf 3 ∈ DataW.weightsEach Tryz.prog ts ds := by
                refine DataW.weights_mem_each ht hd _ ?_
                simp only [DataW.weights, Tryz.underlying22, List.mem_cons, List.mem_append]
                right; left
                refine weights_all _ (D i) (List.mem_map.2 ⟨i, by simpa using hi, rfl⟩) _ ?_
                have hD' : D i = .agg [y0.1, y1.1, y2.1, y3.1, y4.1, y5.1, y6.1] := hD
                rw [hD', hy6]
                simp [DataW.weights, DataW.weightsEach, Tryz.underlying33, Tryz.underlying24]
              have hle := of_decide_eq_true (List.all_eq_true.1 hr _ hwt)
              rw [Tryz.bytesInt] at hle
              refine ⟨some a6, l6, m6, fun t => match W.cell? (a6.add t) with | some (.int .i64 x) => x | _ => 0, h6, by omega, fun t ht => ?_⟩
              obtain ⟨cs6, hcs6, ht6⟩ := hall6 t (by omega)
              rw [Tryz.cellsInt, Nat.mul_one] at hcs6
              obtain ⟨_, hl7, hcell6⟩ := World.cells?_some hcs6
              obtain ⟨x, hx, _, _⟩ := DataW.trod_int Tryz.underlying3 ht6
              subst hx
              have h7 := hcell6 0 (by omega)
              obtain ⟨b6, o6, spot6⟩ := a6
              have hsp6 : spot6 = none := by
                obtain ⟨cs0, hcs0, _⟩ := hall6 0 (by omega)
                obtain ⟨_, hl0, hc0⟩ := World.cells?_some hcs0
                rw [Tryz.cellsInt] at hl0 hc0
                have h00 := hc0 0 (by omega)
                rw [List.getElem?_eq_getElem (show 0 < cs0.length by omega), Nat.zero_mul] at h00
                exact addr_spot (a := ⟨b6, o6, spot6⟩) (by simpa [Addr.add] using h00)
              subst hsp6
              refine ⟨b6, o6, rfl, ?_⟩
              have ea : ((⟨b6, o6, none⟩ : Addr).add t) = ⟨b6, o6 + t, none⟩ := addr_add _ _ _
              have eb : ((⟨b6, o6, none⟩ : Addr).add t).add 0 = ⟨b6, o6 + t, none⟩ := by rw [addr_add, addr_add, Nat.add_zero]
              rw [eb] at h7
              rw [ea, h7]
              rfl
          refine ⟨⟨k0, k1, k2, k3, k4, s5, lo, ll, lc, z⟩, fun _ => ⟨ab, ao, rfl, by simpa using hc 0 (by omega), by simpa using hc 1 (by omega), by simpa using hc 2 (by omega), by simpa using hc 3 (by omega), by simpa using hc 4 (by omega), by simpa using hc 5 (by omega), by simpa using hc 6 (by omega), bounds_i64 w1, bounds_i64 w2, bounds_i64 w3, w5, hL⟩⟩
      · exact ⟨⟨0, 0, 0, 0, 0, ⟨#[]⟩, none, 0, 0, fun _ => 0⟩, fun h => absurd h hi⟩
    obtain ⟨f, hfun⟩ := Classical.skolem.1 hone
    refine ⟨f, by omega, fun i hi => ?_⟩
    obtain ⟨b, o, rfl, h⟩ := hfun i hi
    exact ⟨b, o, rfl, h⟩
theorem ops_of {w : World} {ao : Option Addr} {len : Nat} {r : Nat → OpRec} (hlen : len ≤ 4398046511104) (h : ∀ i, i < len → ∃ b o, ao = some ⟨b, o, none⟩ ∧ (r i).At w b (o + i * 7)) :
    OpsAt w ao len (fun i => (r i).kd) (fun i => (r i).fa) (fun i => (r i).fb) (fun i => (r i).fc) (fun i => (r i).fd) (fun i => (r i).st) (fun i => (r i).lo) (fun i => (r i).ll) (fun i => (r i).lc) (fun i => (r i).z) where
  ln := hlen
  cel i hi := by
    obtain ⟨b, o, e, a⟩ := h i hi
    exact ⟨b, o, e, a.c0, a.c1, a.c2, a.c3, a.c4, a.c5, a.c6⟩
  ra i hi := by obtain ⟨b, o, e, a⟩ := h i hi; exact a.ra
  rb i hi := by obtain ⟨b, o, e, a⟩ := h i hi; exact a.rb
  rc i hi := by obtain ⟨b, o, e, a⟩ := h i hi; exact a.rc
  str i hi := by obtain ⟨b, o, e, a⟩ := h i hi; exact a.str
  lst i hi := by obtain ⟨b, o, e, a⟩ := h i hi; exact a.lst

end Go.Proofs.YtpngikmcjkjdaaaGreatDoor
