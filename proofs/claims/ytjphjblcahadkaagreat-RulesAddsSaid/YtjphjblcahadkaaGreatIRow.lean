/-
  OPENED: arguments that are an item, a row of items, a house.
-/
import Derived.Test.YtjphjblcahadkaaGreatHHouse
import Derived.Test.YtjphjblcahadkaaGreatHO
import Derived.Deep.SlicePairs
import Derived.Lib.SmallJoins
import Derived.SizedLaws
import Derived.ChangeSame
import Derived.OpenShut
namespace Go.Proofs.YtjphjblcahadkaaGreat
open Go.ChangeShapes Go.WideShapes Go.Deep Go.RowKit Go.Joins
set_option linter.unusedVariables false
set_option maxRecDepth 100000

def at14 {α : Type} (a0 a1 a2 a3 a4 a5 a6 a7 a8 a9 a10 a11 a12 a13 z : α) : Nat → α
  | 0 => a0
  | 1 => a1
  | 2 => a2
  | 3 => a3
  | 4 => a4
  | 5 => a5
  | 6 => a6
  | 7 => a7
  | 8 => a8
  | 9 => a9
  | 10 => a10
  | 11 => a11
  | 12 => a12
  | 13 => a13
  | _ => z
section
variable {H : Type} {enc : TypeId × Value → H} {W : World}
theorem item_in {r : Reach} {b0 : Nat} {v : Value} {d : DataW H} {p : List MemPlace} (hv : Value.okWide Tryz.prog W r b0 59 v) (h : DataW.Trod enc Tryz.prog W 0 (fun _ => true) true 59 v d p) :
    ∃ cs : List Value, v = .agg cs.toArray ∧ Fits kItem cs ∧ ∀ u ∈ cs, Mild u := struct_in Tryz.underlying59 opItem hv h
/-- A house in memory, as a whole: its lists and its last task's number. -/
structure HIn (h : Hs) (L : Nat → List (List Value)) (W : World) : Prop where
  n : ∀ i, i < 14 → h.n i = (L i).length
  c : ∀ i, i < 14 → h.n i ≤ h.c i ∧ h.c i ≤ 9223372036854775807
  t : ∀ i, i < 14 → Things (kOf i) (L i)
  m : ∀ i, i < 14 → ∀ e ∈ L i, ∀ u ∈ e, Mild u
  r : ∀ i, i < 14 → Rd W W.heap.size (h.A i) (L i).flatten
  z : (Lit.int .i64 h.z).wf = true
/-- One list. -/
def LIn (ks : List CK) (W : World) (v : Value) (A : Option Addr) (n c : Nat) (L : List (List Value)) : Prop :=
  v = .slice A n c ∧ n = L.length ∧ n ≤ c ∧ c ≤ 9223372036854775807 ∧ Things ks L ∧ (∀ e ∈ L, ∀ u ∈ e, Mild u) ∧ Rd W W.heap.size A L.flatten
theorem field_in {fs : Array Field} {xs : List (DataW H × List MemPlace)} {n : Nat} {cs : List Value} (hx : xs.length = fs.size)
    (hg : ∀ (i : Nat) (f : Field), fs[i]? = some f → DataW.trod enc Tryz.prog W 0 (fun _ => true) true n f.type ((cs.drop f.offset).take (Tryz.prog.cellsOf f.type)) = xs[i]?)
    (i : Nat) (f : Field) (e : TypeId) (ks : List CK) (hfi : fs[i]? = some f) (ho : f.offset = i) (hc : Tryz.prog.cellsOf f.type = 1) (hu : Tryz.prog.underlying f.type = some (.slice e)) (op : OpT Tryz.prog e ks) (hk : 1 ≤ ks.length) (v : Value) (hi : cs[i]? = some v) :
    ∃ q : Option Addr × Nat × Nat × List (List Value), LIn ks W v q.1 q.2.1 q.2.2.1 q.2.2.2 := by
  have h1 := hg i f hfi
  have hlt : i < xs.length := by rw [hx]; exact (Array.getElem?_eq_some_iff.1 hfi).1
  obtain ⟨hil, hv⟩ := List.getElem?_eq_some_iff.1 hi
  rw [ho, hc, List.getElem?_eq_getElem hlt, show (cs.drop i).take 1 = [v] from by rw [List.drop_eq_getElem_cons hil, hv]; rfl] at h1
  obtain ⟨A, len, cap, L, h2, h3, h4, h5, h6, h7, h8⟩ := row_in hu op hk h1
  injection h2 with h2 _
  exact ⟨(A, len, cap, L), h2, h3, h4, h5, h6, h7, h8⟩
theorem house_in {r : Reach} {b0 : Nat} {v : Value} {d : DataW H} {p : List MemPlace} (hv : Value.okWide Tryz.prog W r b0 37 v) (h : DataW.Trod enc Tryz.prog W 0 (fun _ => true) true 37 v d p) :
    ∃ (hs : Hs) (L : Nat → List (List Value)), v = .agg hs.cells ∧ HIn hs L W := by
  obtain ⟨cs, rfl, _⟩ := okWide_struct Tryz.underlying37 hv
  obtain ⟨fuel, hf⟩ := h
  obtain ⟨xs, n, _, _, hl, hx, hg⟩ := DataW.trod_struct Tryz.underlying37 hf
  simp only [Value.cells] at hl hg
  rw [show Tryz.prog.cellsOf 37 = 15 from by kernel_rfl] at hl
  obtain ⟨l, rfl⟩ : ∃ l : List Value, cs = l.toArray := ⟨cs.toList, rfl⟩
  simp only [] at hl hg
  match l, hl with
  | [c0, c1, c2, c3, c4, c5, c6, c7, c8, c9, c10, c11, c12, c13, c14], hl =>
    obtain ⟨q0, h0⟩ := field_in hx hg 0 _ 59 kItem rfl rfl (by kernel_rfl) Tryz.underlying22 opItem (by decide) c0 rfl
    obtain ⟨q1, h1⟩ := field_in hx hg 1 _ 62 kLot rfl rfl (by kernel_rfl) Tryz.underlying23 opLot (by decide) c1 rfl
    obtain ⟨q2, h2⟩ := field_in hx hg 2 _ 65 kZone rfl rfl (by kernel_rfl) Tryz.underlying24 opZone (by decide) c2 rfl
    obtain ⟨q3, h3⟩ := field_in hx hg 3 _ 68 kBin rfl rfl (by kernel_rfl) Tryz.underlying25 opBin (by decide) c3 rfl
    obtain ⟨q4, h4⟩ := field_in hx hg 4 _ 73 kQuant rfl rfl (by kernel_rfl) Tryz.underlying26 opQuant (by decide) c4 rfl
    obtain ⟨q5, h5⟩ := field_in hx hg 5 _ 39 kRule rfl rfl (by kernel_rfl) Tryz.underlying27 opRule (by decide) c5 rfl
    obtain ⟨q6, h6⟩ := field_in hx hg 6 _ 80 kNotice rfl rfl (by kernel_rfl) Tryz.underlying28 opNotice (by decide) c6 rfl
    obtain ⟨q7, h7⟩ := field_in hx hg 7 _ 83 kOrder rfl rfl (by kernel_rfl) Tryz.underlying29 opOrder (by decide) c7 rfl
    obtain ⟨q8, h8⟩ := field_in hx hg 8 _ 86 kClaim rfl rfl (by kernel_rfl) Tryz.underlying30 opClaim (by decide) c8 rfl
    obtain ⟨q9, h9⟩ := field_in hx hg 9 _ 89 kTask rfl rfl (by kernel_rfl) Tryz.underlying31 opTask (by decide) c9 rfl
    obtain ⟨q10, h10⟩ := field_in hx hg 10 _ 92 kParcel rfl rfl (by kernel_rfl) Tryz.underlying32 opParcel (by decide) c10 rfl
    obtain ⟨q11, h11⟩ := field_in hx hg 11 _ 95 kSent rfl rfl (by kernel_rfl) Tryz.underlying33 opSent (by decide) c11 rfl
    obtain ⟨q12, h12⟩ := field_in hx hg 12 _ 98 kCounted rfl rfl (by kernel_rfl) Tryz.underlying34 opCounted (by decide) c12 rfl
    obtain ⟨q13, h13⟩ := field_in hx hg 13 _ 101 kTotal rfl rfl (by kernel_rfl) Tryz.underlying35 opTotal (by decide) c13 rfl
    have hz := hg 14 _ rfl
    have hlt : 14 < xs.length := by rw [hx]; decide
    rw [List.getElem?_eq_getElem hlt] at hz
    obtain ⟨⟨z, hcz⟩, hm⟩ : (∃ z : Int, [c14] = [.int .i64 z]) ∧ ∀ u ∈ [c14], Mild u := by
      have := (opI).op hz
      have e := this.1.1
      obtain ⟨z, hz⟩ := e
      exact ⟨⟨z, by rw [← hz]⟩, this.2⟩
    injection hcz with hcz _
    subst hcz
    obtain ⟨rfl, h0⟩ := h0
    obtain ⟨rfl, h1⟩ := h1
    obtain ⟨rfl, h2⟩ := h2
    obtain ⟨rfl, h3⟩ := h3
    obtain ⟨rfl, h4⟩ := h4
    obtain ⟨rfl, h5⟩ := h5
    obtain ⟨rfl, h6⟩ := h6
    obtain ⟨rfl, h7⟩ := h7
    obtain ⟨rfl, h8⟩ := h8
    obtain ⟨rfl, h9⟩ := h9
    obtain ⟨rfl, h10⟩ := h10
    obtain ⟨rfl, h11⟩ := h11
    obtain ⟨rfl, h12⟩ := h12
    obtain ⟨rfl, h13⟩ := h13
    refine ⟨⟨at14 q0.1 q1.1 q2.1 q3.1 q4.1 q5.1 q6.1 q7.1 q8.1 q9.1 q10.1 q11.1 q12.1 q13.1 none, at14 q0.2.1 q1.2.1 q2.2.1 q3.2.1 q4.2.1 q5.2.1 q6.2.1 q7.2.1 q8.2.1 q9.2.1 q10.2.1 q11.2.1 q12.2.1 q13.2.1 0, at14 q0.2.2.1 q1.2.2.1 q2.2.2.1 q3.2.2.1 q4.2.2.1 q5.2.2.1 q6.2.2.1 q7.2.2.1 q8.2.2.1 q9.2.2.1 q10.2.2.1 q11.2.2.1 q12.2.2.1 q13.2.2.1 0, z⟩, at14 q0.2.2.2 q1.2.2.2 q2.2.2.2 q3.2.2.2 q4.2.2.2 q5.2.2.2 q6.2.2.2 q7.2.2.2 q8.2.2.2 q9.2.2.2 q10.2.2.2 q11.2.2.2 q12.2.2.2 q13.2.2.2 [], rfl, ?_⟩
    have hall : ∀ i, i < 14 → LIn (kOf i) W (.slice (at14 q0.1 q1.1 q2.1 q3.1 q4.1 q5.1 q6.1 q7.1 q8.1 q9.1 q10.1 q11.1 q12.1 q13.1 none i) (at14 q0.2.1 q1.2.1 q2.2.1 q3.2.1 q4.2.1 q5.2.1 q6.2.1 q7.2.1 q8.2.1 q9.2.1 q10.2.1 q11.2.1 q12.2.1 q13.2.1 0 i) (at14 q0.2.2.1 q1.2.2.1 q2.2.2.1 q3.2.2.1 q4.2.2.1 q5.2.2.1 q6.2.2.1 q7.2.2.1 q8.2.2.1 q9.2.2.1 q10.2.2.1 q11.2.2.1 q12.2.2.1 q13.2.2.1 0 i)) (at14 q0.1 q1.1 q2.1 q3.1 q4.1 q5.1 q6.1 q7.1 q8.1 q9.1 q10.1 q11.1 q12.1 q13.1 none i) (at14 q0.2.1 q1.2.1 q2.2.1 q3.2.1 q4.2.1 q5.2.1 q6.2.1 q7.2.1 q8.2.1 q9.2.1 q10.2.1 q11.2.1 q12.2.1 q13.2.1 0 i) (at14 q0.2.2.1 q1.2.2.1 q2.2.2.1 q3.2.2.1 q4.2.2.1 q5.2.2.1 q6.2.2.1 q7.2.2.1 q8.2.2.1 q9.2.2.1 q10.2.2.1 q11.2.2.1 q12.2.2.1 q13.2.2.1 0 i) (at14 q0.2.2.2 q1.2.2.2 q2.2.2.2 q3.2.2.2 q4.2.2.2 q5.2.2.2 q6.2.2.2 q7.2.2.2 q8.2.2.2 q9.2.2.2 q10.2.2.2 q11.2.2.2 q12.2.2.2 q13.2.2.2 [] i) := fun i hi => by
      match i, hi with
      | 0, _ => exact ⟨rfl, h0⟩
      | 1, _ => exact ⟨rfl, h1⟩
      | 2, _ => exact ⟨rfl, h2⟩
      | 3, _ => exact ⟨rfl, h3⟩
      | 4, _ => exact ⟨rfl, h4⟩
      | 5, _ => exact ⟨rfl, h5⟩
      | 6, _ => exact ⟨rfl, h6⟩
      | 7, _ => exact ⟨rfl, h7⟩
      | 8, _ => exact ⟨rfl, h8⟩
      | 9, _ => exact ⟨rfl, h9⟩
      | 10, _ => exact ⟨rfl, h10⟩
      | 11, _ => exact ⟨rfl, h11⟩
      | 12, _ => exact ⟨rfl, h12⟩
      | 13, _ => exact ⟨rfl, h13⟩
      | i + 14, hi => omega
    exact ⟨fun i hi => (hall i hi).2.1, fun i hi => ⟨(hall i hi).2.2.1, (hall i hi).2.2.2.1⟩, fun i hi => (hall i hi).2.2.2.2.1, fun i hi => (hall i hi).2.2.2.2.2.1, fun i hi => (hall i hi).2.2.2.2.2.2, (show Mild (.int .i64 z) from hm _ (by simp))⟩
/-- A row of items. -/
theorem items_in {A : Option Addr} {len cap : Nat} {d : DataW H} {p : List MemPlace} (h : DataW.Trod enc Tryz.prog W 0 (fun _ => true) true 22 (.slice A len cap) d p) :
    ∃ L : List (List Value), LIn kItem W (.slice A len cap) A len cap L := by
  obtain ⟨fuel, hf⟩ := h
  obtain ⟨A', len', cap', L, h2, h3, h4, h5, h6, h7, h8⟩ := row_in Tryz.underlying22 opItem (by decide) hf
  simp [Value.cells] at h2
  obtain ⟨rfl, rfl, rfl⟩ := h2
  exact ⟨L, rfl, h3, h4, h5, h6, h7, h8⟩
end
abbrev zeroIC : Array Value := #[.string ⟨#[]⟩, .string ⟨#[]⟩, .int .i64 0, .string ⟨#[]⟩, .int .i64 0, .string ⟨#[]⟩, .int .i64 0, .string ⟨#[]⟩, .int .i64 0, .int .i64 0, .int .i64 0, .bool false, .bool false, .bool false]
theorem HIn.ht {h : Hs} {L : Nat → List (List Value)} {w W : World} (H : HIn h L w) (hs : h.small) (hb : Below w.heap.size w W) : HT h L W := fun i hi =>
  ⟨H.n i hi, Nat.le_trans (hs i hi) (Nat.le_trans (cap_le i hi) (by decide)), H.t i hi, ((H.r i hi).below hb).mono hb.size⟩
end Go.Proofs.YtjphjblcahadkaaGreat
