/-
  OPENED: arguments that are a row of Asks, a row of houses.
-/
import Derived.Test.YtnkhnbpopdmkhaaGreatWRow
namespace Go.Proofs.YtnkhnbpopdmkhaaGreat
open Go.ChangeShapes Go.WideShapes Go.Deep Go.RowKit Go.Joins
set_option linter.unusedVariables false
set_option maxRecDepth 100000

section
variable {H : Type} {enc : TypeId × Value → H} {W : World}
theorem asks_in {A : Option Addr} {len cap : Nat} {d : DataW H} {p : List MemPlace} (h : DataW.Trod enc Tryz.prog W 0 (fun _ => true) true 50 (.slice A len cap) d p) :
    ∃ L : List (List Value), LIn kAsk W (.slice A len cap) A len cap L := by
  obtain ⟨fuel, hf⟩ := h
  obtain ⟨A', len', cap', L, h2, h3, h4, h5, h6, h7, h8⟩ := row_in Tryz.underlying50 opAsk (by decide) hf
  simp [Value.cells] at h2
  obtain ⟨rfl, rfl, rfl⟩ := h2
  exact ⟨L, rfl, h3, h4, h5, h6, h7, h8⟩
theorem house_cells {fuel : Nat} {cs : List Value} {x : DataW H × List MemPlace} (hf : DataW.trod enc Tryz.prog W 0 (fun _ => true) true fuel 37 cs = some x) :
 ∃ (hs : Hs) (L : Nat → List (List Value)), cs = hs.cells.toList ∧ HIn hs L W := by
 obtain ⟨xs, n, _, _, hl, hx, hg⟩ := DataW.trod_struct Tryz.underlying37 hf
 rw [show Tryz.prog.cellsOf 37 = 15 from by kernel_rfl] at hl
 match cs, hl with
 | [c0, c1, c2, c3, c4, c5, c6, c7, c8, c9, c10, c11, c12, c13, c14], hl =>
  obtain ⟨q0, h0⟩ := field_in hx hg 0 _ 68 kItem rfl rfl (by kernel_rfl) Tryz.underlying22 opItem (by decide) c0 rfl
  obtain ⟨q1, h1⟩ := field_in hx hg 1 _ 71 kLot rfl rfl (by kernel_rfl) Tryz.underlying23 opLot (by decide) c1 rfl
  obtain ⟨q2, h2⟩ := field_in hx hg 2 _ 74 kZone rfl rfl (by kernel_rfl) Tryz.underlying24 opZone (by decide) c2 rfl
  obtain ⟨q3, h3⟩ := field_in hx hg 3 _ 77 kBin rfl rfl (by kernel_rfl) Tryz.underlying25 opBin (by decide) c3 rfl
  obtain ⟨q4, h4⟩ := field_in hx hg 4 _ 58 kQuant rfl rfl (by kernel_rfl) Tryz.underlying26 opQuant (by decide) c4 rfl
  obtain ⟨q5, h5⟩ := field_in hx hg 5 _ 81 kRule rfl rfl (by kernel_rfl) Tryz.underlying27 opRule (by decide) c5 rfl
  obtain ⟨q6, h6⟩ := field_in hx hg 6 _ 87 kNotice rfl rfl (by kernel_rfl) Tryz.underlying28 opNotice (by decide) c6 rfl
  obtain ⟨q7, h7⟩ := field_in hx hg 7 _ 90 kOrder rfl rfl (by kernel_rfl) Tryz.underlying29 opOrder (by decide) c7 rfl
  obtain ⟨q8, h8⟩ := field_in hx hg 8 _ 93 kClaim rfl rfl (by kernel_rfl) Tryz.underlying30 opClaim (by decide) c8 rfl
  obtain ⟨q9, h9⟩ := field_in hx hg 9 _ 96 kTask rfl rfl (by kernel_rfl) Tryz.underlying31 opTask (by decide) c9 rfl
  obtain ⟨q10, h10⟩ := field_in hx hg 10 _ 99 kParcel rfl rfl (by kernel_rfl) Tryz.underlying32 opParcel (by decide) c10 rfl
  obtain ⟨q11, h11⟩ := field_in hx hg 11 _ 102 kSent rfl rfl (by kernel_rfl) Tryz.underlying33 opSent (by decide) c11 rfl
  obtain ⟨q12, h12⟩ := field_in hx hg 12 _ 104 kCounted rfl rfl (by kernel_rfl) Tryz.underlying34 opCounted (by decide) c12 rfl
  obtain ⟨q13, h13⟩ := field_in hx hg 13 _ 107 kTotal rfl rfl (by kernel_rfl) Tryz.underlying35 opTotal (by decide) c13 rfl
  have hz := hg 14 _ rfl
  have hlt : 14 < xs.length := by rw [hx]; decide
  rw [List.getElem?_eq_getElem hlt] at hz
  obtain ⟨⟨z, hcz⟩, hm⟩ : (∃ z : Int, [c14] = [.int .i64 z]) ∧ ∀ u ∈ [c14], Mild u := by
   have := (opI).op hz
   have e := this.1.1
   obtain ⟨z, hz⟩ := e
   exact ⟨⟨z, by rw [← hz]⟩, this.2⟩
  injection hcz with hcz _
  subst hcz
  obtain ⟨rfl, h0⟩ := h0
  obtain ⟨rfl, h1⟩ := h1
  obtain ⟨rfl, h2⟩ := h2
  obtain ⟨rfl, h3⟩ := h3
  obtain ⟨rfl, h4⟩ := h4
  obtain ⟨rfl, h5⟩ := h5
  obtain ⟨rfl, h6⟩ := h6
  obtain ⟨rfl, h7⟩ := h7
  obtain ⟨rfl, h8⟩ := h8
  obtain ⟨rfl, h9⟩ := h9
  obtain ⟨rfl, h10⟩ := h10
  obtain ⟨rfl, h11⟩ := h11
  obtain ⟨rfl, h12⟩ := h12
  obtain ⟨rfl, h13⟩ := h13
  refine ⟨⟨at14 q0.1 q1.1 q2.1 q3.1 q4.1 q5.1 q6.1 q7.1 q8.1 q9.1 q10.1 q11.1 q12.1 q13.1 none, at14 q0.2.1 q1.2.1 q2.2.1 q3.2.1 q4.2.1 q5.2.1 q6.2.1 q7.2.1 q8.2.1 q9.2.1 q10.2.1 q11.2.1 q12.2.1 q13.2.1 0, at14 q0.2.2.1 q1.2.2.1 q2.2.2.1 q3.2.2.1 q4.2.2.1 q5.2.2.1 q6.2.2.1 q7.2.2.1 q8.2.2.1 q9.2.2.1 q10.2.2.1 q11.2.2.1 q12.2.2.1 q13.2.2.1 0, z⟩, at14 q0.2.2.2 q1.2.2.2 q2.2.2.2 q3.2.2.2 q4.2.2.2 q5.2.2.2 q6.2.2.2 q7.2.2.2 q8.2.2.2 q9.2.2.2 q10.2.2.2 q11.2.2.2 q12.2.2.2 q13.2.2.2 [], rfl, ?_⟩
  have hall : ∀ i, i < 14 → LIn (kOf i) W (.slice (at14 q0.1 q1.1 q2.1 q3.1 q4.1 q5.1 q6.1 q7.1 q8.1 q9.1 q10.1 q11.1 q12.1 q13.1 none i) (at14 q0.2.1 q1.2.1 q2.2.1 q3.2.1 q4.2.1 q5.2.1 q6.2.1 q7.2.1 q8.2.1 q9.2.1 q10.2.1 q11.2.1 q12.2.1 q13.2.1 0 i) (at14 q0.2.2.1 q1.2.2.1 q2.2.2.1 q3.2.2.1 q4.2.2.1 q5.2.2.1 q6.2.2.1 q7.2.2.1 q8.2.2.1 q9.2.2.1 q10.2.2.1 q11.2.2.1 q12.2.2.1 q13.2.2.1 0 i)) (at14 q0.1 q1.1 q2.1 q3.1 q4.1 q5.1 q6.1 q7.1 q8.1 q9.1 q10.1 q11.1 q12.1 q13.1 none i) (at14 q0.2.1 q1.2.1 q2.2.1 q3.2.1 q4.2.1 q5.2.1 q6.2.1 q7.2.1 q8.2.1 q9.2.1 q10.2.1 q11.2.1 q12.2.1 q13.2.1 0 i) (at14 q0.2.2.1 q1.2.2.1 q2.2.2.1 q3.2.2.1 q4.2.2.1 q5.2.2.1 q6.2.2.1 q7.2.2.1 q8.2.2.1 q9.2.2.1 q10.2.2.1 q11.2.2.1 q12.2.2.1 q13.2.2.1 0 i) (at14 q0.2.2.2 q1.2.2.2 q2.2.2.2 q3.2.2.2 q4.2.2.2 q5.2.2.2 q6.2.2.2 q7.2.2.2 q8.2.2.2 q9.2.2.2 q10.2.2.2 q11.2.2.2 q12.2.2.2 q13.2.2.2 [] i) := fun i hi => by
   match i, hi with
   | 0, _ => exact ⟨rfl, h0⟩
   | 1, _ => exact ⟨rfl, h1⟩
   | 2, _ => exact ⟨rfl, h2⟩
   | 3, _ => exact ⟨rfl, h3⟩
   | 4, _ => exact ⟨rfl, h4⟩
   | 5, _ => exact ⟨rfl, h5⟩
   | 6, _ => exact ⟨rfl, h6⟩
   | 7, _ => exact ⟨rfl, h7⟩
   | 8, _ => exact ⟨rfl, h8⟩
   | 9, _ => exact ⟨rfl, h9⟩
   | 10, _ => exact ⟨rfl, h10⟩
   | 11, _ => exact ⟨rfl, h11⟩
   | 12, _ => exact ⟨rfl, h12⟩
   | 13, _ => exact ⟨rfl, h13⟩
   | i + 14, hi => omega
  exact ⟨fun i hi => (hall i hi).2.1, fun i hi => ⟨(hall i hi).2.2.1, (hall i hi).2.2.2.1⟩, fun i hi => (hall i hi).2.2.2.2.1, fun i hi => (hall i hi).2.2.2.2.2.1, fun i hi => (hall i hi).2.2.2.2.2.2, (show Mild (.int .i64 z) from hm _ (by simp))⟩
/-- A row of houses. -/
theorem houses_in {A : Option Addr} {len cap : Nat} {d : DataW H} {p : List MemPlace} (h : DataW.Trod enc Tryz.prog W 0 (fun _ => true) true 49 (.slice A len cap) d p) :
 ∃ (hs : Nat → Hs) (Ls : Nat → Nat → List (List Value)), len ≤ cap ∧ cap ≤ 9223372036854775807 ∧ (∀ i, i < len → HIn (hs i) (Ls i) W) ∧ ∀ i, i < len → ∃ b off, A = some ⟨b, off, none⟩ ∧ b < W.heap.size ∧ W.rangeAt b (off + i * 15) (hs i).cells.toList := by
 obtain ⟨fuel, hf⟩ := h
 rcases open_slice Tryz.underlying49 hf with ⟨h0, _⟩ | ⟨a, len', cap', m, n, D, Pl, he, _, hl, hm, hmm, _, hi⟩
 · simp [Value.cells] at h0
   obtain ⟨rfl, rfl, rfl⟩ := h0
   exact ⟨fun _ => ⟨fun _ => none, fun _ => 0, fun _ => 0, 0⟩, fun _ _ => [], Nat.le_refl _, by omega, fun i hi => by omega, fun i hi => by omega⟩
 · simp [Value.cells] at he
   obtain ⟨rfl, rfl, rfl⟩ := he
   simp only [if_true] at hmm
   subst hmm
   have hce : Tryz.prog.cellsOf 37 = 15 := by kernel_rfl
   have hg : ∀ i, ∃ q : Hs × (Nat → List (List Value)), i < m → W.cells? 0 (a.add (i * Tryz.prog.cellsOf 37)) (Tryz.prog.cellsOf 37) = some q.1.cells.toList ∧ HIn q.1 q.2 W := fun i => by
    by_cases hx : i < m
    · obtain ⟨c, h1, h2⟩ := hi i hx
      obtain ⟨hs, L, rfl, h3⟩ := house_cells h2
      exact ⟨⟨hs, L⟩, fun _ => ⟨h1, h3⟩⟩
    · exact ⟨⟨⟨fun _ => none, fun _ => 0, fun _ => 0, 0⟩, fun _ => []⟩, fun h => absurd h hx⟩
   obtain ⟨f, hf⟩ := Classical.axiomOfChoice hg
   have hat : ∀ i j, i < len → j < 15 → W.cell? (a.add (i * 15 + j)) = (f i).1.cells.toList[j]? := fun i j hi hj => by
    obtain ⟨h1, _⟩ := hf i (by omega)
    obtain ⟨_, _, h3⟩ := World.cells?_some h1
    have := h3 j (by rw [hce]; exact hj)
    rw [hce, Go.Deep.add_add] at this
    exact this
   refine ⟨fun i => (f i).1, fun i => (f i).2, hl, by simpa [maxLen] using hm, fun i hi => (hf i (by omega)).2, fun i hil => ?_⟩
   have hc0 := hat 0 0 (by omega) (by omega)
   obtain ⟨b, off, spot⟩ := a
   rw [show (f 0).1.cells.toList[0]? = some (.slice ((f 0).1.A 0) ((f 0).1.n 0) ((f 0).1.c 0)) from rfl] at hc0
   have hspot : spot = none := by simpa [Addr.add] using World.cell?_spot hc0
   subst hspot
   have hb : b < W.heap.size := by have := World.block_lt_of_cell? W _ hc0; simpa [Addr.add] using this
   refine ⟨b, off, rfl, hb, fun j u hu => ?_⟩
   have hj : j < 15 := (List.getElem?_eq_some_iff.1 hu).1
   have h5 := hat i j hil hj
   rw [Addr.add_lit] at h5
   rw [show off + i * 15 + j = off + (i * 15 + j) from Nat.add_assoc _ _ _, h5, hu]
end
end Go.Proofs.YtnkhnbpopdmkhaaGreat
