/-
 PLAIN: names; an item; whether it may be kept.
 OPENED: arguments that are an item, a row of items, a house.
 OPENED: arguments that are a notice, a quant's name, what came.
 WORDS: strings.Compare; a thing's code; two results. (By wip/tools/gen_one.py.)
 PLAIN: things of api.Item by their code. (By wip/tools/gen_one.py.) PLAIN: things of api.Zone by their code. (By wip/tools/gen_one.py.) PLAIN: things of api.Bin by their code. (By wip/tools/gen_one.py.) PLAIN: things of api.Notice by their code. (By wip/tools/gen_one.py.) (By wip/tools/merge.py.)
 PLAIN: the units of an item; so many of a unit in base units; base units as units.
 PLAIN: lots, quants; what fits; when a lot ends.
 PLAIN: totals. (By wip/tools/gen_tot.py.)
 PLAIN: a bin, a quant, by their fields.
 PLAIN: what stands in a bin; what fits; which bins are overfull; other measures.
 PLAIN: the first least of those that are taken; orders that are weak: by one thing, then by another.
 PLAIN: zones; rules; which is asked first; the shelves of one; where something is stowed.
 PLAIN: lines and notices.
 CONTRACT of the rows' Texts.
 PLAIN: quants by their key; what is put, taken, held, moved, given another status.
 PLAIN: what was put is taken off again; what was held more is held less again.
 PLAIN: what comes in, and what is stowed.
 CONTRACTS of cmp.Or and cmp.Compare. (By wip/tools/port14c.py.)
-/
import Derived.Test.YtnkhnbpopdmkhaaGreatGT
import Derived.Test.YtnkhnbpopdmkhaaGreatHO
import Derived.Lib.Bytealg
import Derived.Test.YtnkhnbpopdmkhaaGreatHHouse
import Derived.Deep.SlicePairs
import Derived.Lib.SmallJoins
import Derived.SizedLaws
import Derived.ChangeSame
import Derived.OpenShut
import Derived.Laws.Externs
import Derived.BigQuiet
import Derived.Deep.RegionHeld3
namespace Go.Proofs.YtnkhnbpopdmkhaaGreat.Pl
set_option linter.unusedVariables false

theorem take_snoc (s : ByteArray) (k : Nat) (h : k < s.size) : s.data.toList.take (k + 1) = s.data.toList.take k ++ [s[k]] := by
 rw [List.take_succ_eq_append_getElem (by simpa using h)]; rfl
theorem length_toList (s : ByteArray) : s.data.toList.length = s.size := by rw [Array.length_toList]; rfl
/-- May a byte stand in a name? -/
def good (c : UInt8) : Bool := decide (33 ≤ c.toNat) && decide (c.toNat ≤ 126)
/-- What Name answers. -/
def nameE (l : List UInt8) : Nat := if 12 < l.length then 4 else if l = [] then 3 else if l.all good then 0 else 3
def nmE (s : ByteArray) : Nat := nameE s.data.toList
theorem nmE_any (s : ByteArray) : nmE s = 0 ∨ nmE s = 3 ∨ nmE s = 4 := by
 unfold nmE nameE; split
 · exact .inr (.inr rfl)
 · split
   · exact .inr (.inl rfl)
   · split
     · exact .inl rfl
     · exact .inr (.inl rfl)
theorem nmE_zero {s : ByteArray} (h : nmE s = 0) : 1 ≤ s.size ∧ s.size ≤ 12 := by
 unfold nmE nameE at h
 rw [length_toList] at h
 split at h
 · omega
 · split at h
   · omega
   · rename_i h1 h2
     refine ⟨?_, by omega⟩
     rcases Nat.eq_zero_or_pos s.size with h0 | h0
     · exact absurd (List.eq_nil_of_length_eq_zero ((length_toList s).trans h0)) h2
     · exact h0
theorem compare_cmp : ∀ (a b : List UInt8), Lib.compareBytes a b = if Op.bytesLess a b = true then -1 else if (a == b) = true then 0 else 1
 | [], [] => by decide
 | [], _ :: _ => by rw [Go.Proofs.bytesLess_eq]; simp [Lib.compareBytes]
 | _ :: _, [] => by rw [Go.Proofs.bytesLess_eq]; simp [Lib.compareBytes]
 | x :: a, y :: b => by
  have ih := compare_cmp a b
  rw [Go.Proofs.bytesLess_eq] at ih ⊢
  unfold Lib.compareBytes
  by_cases h1 : x < y
  · have : decide (x :: a < y :: b) = true := by simp [List.cons_lt_cons_iff, h1]
    rw [if_pos h1, if_pos this]
  · by_cases h2 : y < x
    · have h3 : ¬ x = y := fun e => by subst e; exact h1 h2
      have : ¬ decide (x :: a < y :: b) = true := by simp [List.cons_lt_cons_iff, h1, h3]
      rw [if_neg h1, if_pos h2, if_neg this]
      simp [h3]
    · have h3 : x = y := UInt8.le_antisymm (UInt8.not_lt.1 h2) (UInt8.not_lt.1 h1)
      subst h3
      rw [if_neg h1, if_neg h2, ih]
      simp
theorem compare_eq (a b : ByteArray) : Lib.compareBytes a.data.toList b.data.toList = cmp a b := by
 rw [compare_cmp, ← ByteArray.toList_eq, ← ByteArray.toList_eq]; rfl

/-- An item. -/
structure It where
 code : ByteArray
 nm : Nat → ByteArray
 fc : Nat → Int
 vol : Int
 wei : Int
 lots : Bool
 serial : Bool
 chk : Bool
def It.units (x : It) : List Value := [.string (x.nm 0), .int .i64 (x.fc 0), .string (x.nm 1), .int .i64 (x.fc 1), .string (x.nm 2), .int .i64 (x.fc 2), .string (x.nm 3), .int .i64 (x.fc 3)]
def It.cells (x : It) : List Value := [.string x.code, .string (x.nm 0), .int .i64 (x.fc 0), .string (x.nm 1), .int .i64 (x.fc 1), .string (x.nm 2), .int .i64 (x.fc 2), .string (x.nm 3), .int .i64 (x.fc 3), .int .i64 x.vol, .int .i64 x.wei, .bool x.lots, .bool x.serial, .bool x.chk]
def at4 {α : Type} (a b c d : α) : Nat → α
 | 0 => a
 | 1 => b
 | 2 => c
 | _ => d
theorem It.of {cs : List Value} (h : Fits kItem cs) : ∃ x : It, cs = x.cells := by
 match cs, h with
 | [c0, c1, c2, c3, c4, c5, c6, c7, c8, c9, c10, c11, c12, c13], h =>
  obtain ⟨⟨a0, rfl⟩, ⟨a1, rfl⟩, ⟨a2, rfl⟩, ⟨a3, rfl⟩, ⟨a4, rfl⟩, ⟨a5, rfl⟩, ⟨a6, rfl⟩, ⟨a7, rfl⟩, ⟨a8, rfl⟩, ⟨a9, rfl⟩, ⟨a10, rfl⟩, ⟨a11, rfl⟩, ⟨a12, rfl⟩, ⟨a13, rfl⟩, _⟩ := h
  exact ⟨⟨a0, at4 a1 a3 a5 a7, at4 a2 a4 a6 a8, a9, a10, a11, a12, a13⟩, rfl⟩
theorem It.fits (x : It) : Fits kItem x.cells := ⟨⟨_, rfl⟩, ⟨_, rfl⟩, ⟨_, rfl⟩, ⟨_, rfl⟩, ⟨_, rfl⟩, ⟨_, rfl⟩, ⟨_, rfl⟩, ⟨_, rfl⟩, ⟨_, rfl⟩, ⟨_, rfl⟩, ⟨_, rfl⟩, ⟨_, rfl⟩, ⟨_, rfl⟩, ⟨_, rfl⟩, trivial⟩
/-- No text is longer than a machine can hold. -/
structure It.Ok (x : It) : Prop where
 code : x.code.size ≤ 9223372036854775807
 nm : ∀ i, i < 4 → (x.nm i).size ≤ 9223372036854775807
theorem It.ok_of {x : It} (h : ∀ v ∈ x.cells, Mild v) : x.Ok :=
 ⟨h (.string x.code) (by simp [It.cells]), fun i hi => by
  match i, hi with
  | 0, _ => exact h (.string (x.nm 0)) (by simp [It.cells])
  | 1, _ => exact h (.string (x.nm 1)) (by simp [It.cells])
  | 2, _ => exact h (.string (x.nm 2)) (by simp [It.cells])
  | 3, _ => exact h (.string (x.nm 3)) (by simp [It.cells])
  | i + 4, hi => omega⟩
/-- The word 'each'. -/
abbrev each : ByteArray := ⟨#[101, 97, 99, 104]⟩
/-- Is a name that of an earlier unit? -/
def dup (x : It) (j : Nat) : Bool := (List.range j).any fun i => eqv (x.nm i) (x.nm j)
/-- What is wrong with a unit. -/
def uE (x : It) (j : Nat) : Nat :=
 if (x.nm j).size = 0 then (if x.fc j = 0 then 0 else 5)
 else if nmE (x.nm j) ≠ 0 then nmE (x.nm j)
 else if eqv (x.nm j) each = true ∨ dup x j = true then 11
 else if x.fc j < 2 ∨ 1000000 < x.fc j then 5 else 0
/-- What is wrong with the units. -/
def unE (x : It) : Nat := if uE x 0 ≠ 0 then uE x 0 else if uE x 1 ≠ 0 then uE x 1 else if uE x 2 ≠ 0 then uE x 2 else uE x 3
theorem unE_at {x : It} {j : Nat} (hj : j < 4) (h : ∀ i, i < j → uE x i = 0) (he : uE x j ≠ 0) : unE x = uE x j := by
 unfold unE
 match j, hj with
 | 0, _ => rw [if_pos he]
 | 1, _ => rw [if_neg (by simp [h 0]), if_pos he]
 | 2, _ => rw [if_neg (by simp [h 0]), if_neg (by simp [h 1]), if_pos he]
 | 3, _ => rw [if_neg (by simp [h 0]), if_neg (by simp [h 1]), if_neg (by simp [h 2])]
 | j + 4, hj => omega
theorem unE_zero {x : It} (h : ∀ i, i < 4 → uE x i = 0) : unE x = 0 := by
 unfold unE; rw [h 0 (by omega), h 1 (by omega), h 2 (by omega), h 3 (by omega)]; rfl
theorem unE_all {x : It} (h : unE x = 0) (i : Nat) (hi : i < 4) : uE x i = 0 := by
 unfold unE at h
 split at h
 · omega
 · split at h
   · omega
   · split at h
     · omega
     · match i, hi with
       | 0, _ => omega
       | 1, _ => omega
       | 2, _ => omega
       | 3, _ => omega
       | i + 4, hi => omega
/-- What is wrong with an item's measures, and its lots. -/
def meE (x : It) : Nat := if x.vol < 0 ∨ 1000000 < x.vol ∨ x.wei < 0 ∨ 1000000 < x.wei then 5 else if (x.serial && !x.lots) = true then 21 else 0
/-- May an item be kept? -/
def chE (x : It) : Nat := if nmE x.code ≠ 0 then nmE x.code else if unE x ≠ 0 then unE x else meE x
end Go.Proofs.YtnkhnbpopdmkhaaGreat.Pl

namespace Go.Proofs.YtnkhnbpopdmkhaaGreat
open Go.ChangeShapes Go.WideShapes Go.Deep Go.RowKit Go.Joins
set_option linter.unusedVariables false
set_option maxRecDepth 100000

def at14 {α : Type} (a0 a1 a2 a3 a4 a5 a6 a7 a8 a9 a10 a11 a12 a13 z : α) : Nat → α
 | 0 => a0
 | 1 => a1
 | 2 => a2
 | 3 => a3
 | 4 => a4
 | 5 => a5
 | 6 => a6
 | 7 => a7
 | 8 => a8
 | 9 => a9
 | 10 => a10
 | 11 => a11
 | 12 => a12
 | 13 => a13
 | _ => z
section
variable {H : Type} {enc : TypeId × Value → H} {W : World}
theorem item_in {r : Reach} {b0 : Nat} {v : Value} {d : DataW H} {p : List MemPlace} (hv : Value.okWide Tryz.prog W r b0 68 v) (h : DataW.Trod enc Tryz.prog W 0 (fun _ => true) true 68 v d p) :
 ∃ cs : List Value, v = .agg cs.toArray ∧ Fits kItem cs ∧ ∀ u ∈ cs, Mild u := struct_in Tryz.underlying68 opItem hv h
/-- A house in memory, as a whole: its lists and its last task's number. -/
structure HIn (h : Hs) (L : Nat → List (List Value)) (W : World) : Prop where
 n : ∀ i, i < 14 → h.n i = (L i).length
 c : ∀ i, i < 14 → h.n i ≤ h.c i ∧ h.c i ≤ 9223372036854775807
 t : ∀ i, i < 14 → Things (kOf i) (L i)
 m : ∀ i, i < 14 → ∀ e ∈ L i, ∀ u ∈ e, Mild u
 r : ∀ i, i < 14 → Rd W W.heap.size (h.A i) (L i).flatten
 z : (Lit.int .i64 h.z).wf = true
/-- One list. -/
def LIn (ks : List CK) (W : World) (v : Value) (A : Option Addr) (n c : Nat) (L : List (List Value)) : Prop :=
 v = .slice A n c ∧ n = L.length ∧ n ≤ c ∧ c ≤ 9223372036854775807 ∧ Things ks L ∧ (∀ e ∈ L, ∀ u ∈ e, Mild u) ∧ Rd W W.heap.size A L.flatten
theorem field_in {fs : Array Field} {xs : List (DataW H × List MemPlace)} {n : Nat} {cs : List Value} (hx : xs.length = fs.size)
 (hg : ∀ (i : Nat) (f : Field), fs[i]? = some f → DataW.trod enc Tryz.prog W 0 (fun _ => true) true n f.type ((cs.drop f.offset).take (Tryz.prog.cellsOf f.type)) = xs[i]?)
 (i : Nat) (f : Field) (e : TypeId) (ks : List CK) (hfi : fs[i]? = some f) (ho : f.offset = i) (hc : Tryz.prog.cellsOf f.type = 1) (hu : Tryz.prog.underlying f.type = some (.slice e)) (op : OpT Tryz.prog e ks) (hk : 1 ≤ ks.length) (v : Value) (hi : cs[i]? = some v) :
 ∃ q : Option Addr × Nat × Nat × List (List Value), LIn ks W v q.1 q.2.1 q.2.2.1 q.2.2.2 := by
 have h1 := hg i f hfi
 have hlt : i < xs.length := by rw [hx]; exact (Array.getElem?_eq_some_iff.1 hfi).1
 obtain ⟨hil, hv⟩ := List.getElem?_eq_some_iff.1 hi
 rw [ho, hc, List.getElem?_eq_getElem hlt, show (cs.drop i).take 1 = [v] from by rw [List.drop_eq_getElem_cons hil, hv]; rfl] at h1
 obtain ⟨A, len, cap, L, h2, h3, h4, h5, h6, h7, h8⟩ := row_in hu op hk h1
 injection h2 with h2 _
 exact ⟨(A, len, cap, L), h2, h3, h4, h5, h6, h7, h8⟩
theorem house_in {r : Reach} {b0 : Nat} {v : Value} {d : DataW H} {p : List MemPlace} (hv : Value.okWide Tryz.prog W r b0 37 v) (h : DataW.Trod enc Tryz.prog W 0 (fun _ => true) true 37 v d p) :
 ∃ (hs : Hs) (L : Nat → List (List Value)), v = .agg hs.cells ∧ HIn hs L W := by
 obtain ⟨cs, rfl, _⟩ := okWide_struct Tryz.underlying37 hv
 obtain ⟨fuel, hf⟩ := h
 obtain ⟨xs, n, _, _, hl, hx, hg⟩ := DataW.trod_struct Tryz.underlying37 hf
 simp only [Value.cells] at hl hg
 rw [show Tryz.prog.cellsOf 37 = 15 from by kernel_rfl] at hl
 obtain ⟨l, rfl⟩ : ∃ l : List Value, cs = l.toArray := ⟨cs.toList, rfl⟩
 simp only [] at hl hg
 match l, hl with
 | [c0, c1, c2, c3, c4, c5, c6, c7, c8, c9, c10, c11, c12, c13, c14], hl =>
  obtain ⟨q0, h0⟩ := field_in hx hg 0 _ 68 kItem rfl rfl (by kernel_rfl) Tryz.underlying22 opItem (by decide) c0 rfl
  obtain ⟨q1, h1⟩ := field_in hx hg 1 _ 71 kLot rfl rfl (by kernel_rfl) Tryz.underlying23 opLot (by decide) c1 rfl
  obtain ⟨q2, h2⟩ := field_in hx hg 2 _ 74 kZone rfl rfl (by kernel_rfl) Tryz.underlying24 opZone (by decide) c2 rfl
  obtain ⟨q3, h3⟩ := field_in hx hg 3 _ 77 kBin rfl rfl (by kernel_rfl) Tryz.underlying25 opBin (by decide) c3 rfl
  obtain ⟨q4, h4⟩ := field_in hx hg 4 _ 58 kQuant rfl rfl (by kernel_rfl) Tryz.underlying26 opQuant (by decide) c4 rfl
  obtain ⟨q5, h5⟩ := field_in hx hg 5 _ 81 kRule rfl rfl (by kernel_rfl) Tryz.underlying27 opRule (by decide) c5 rfl
  obtain ⟨q6, h6⟩ := field_in hx hg 6 _ 87 kNotice rfl rfl (by kernel_rfl) Tryz.underlying28 opNotice (by decide) c6 rfl
  obtain ⟨q7, h7⟩ := field_in hx hg 7 _ 90 kOrder rfl rfl (by kernel_rfl) Tryz.underlying29 opOrder (by decide) c7 rfl
  obtain ⟨q8, h8⟩ := field_in hx hg 8 _ 93 kClaim rfl rfl (by kernel_rfl) Tryz.underlying30 opClaim (by decide) c8 rfl
  obtain ⟨q9, h9⟩ := field_in hx hg 9 _ 96 kTask rfl rfl (by kernel_rfl) Tryz.underlying31 opTask (by decide) c9 rfl
  obtain ⟨q10, h10⟩ := field_in hx hg 10 _ 99 kParcel rfl rfl (by kernel_rfl) Tryz.underlying32 opParcel (by decide) c10 rfl
  obtain ⟨q11, h11⟩ := field_in hx hg 11 _ 102 kSent rfl rfl (by kernel_rfl) Tryz.underlying33 opSent (by decide) c11 rfl
  obtain ⟨q12, h12⟩ := field_in hx hg 12 _ 104 kCounted rfl rfl (by kernel_rfl) Tryz.underlying34 opCounted (by decide) c12 rfl
  obtain ⟨q13, h13⟩ := field_in hx hg 13 _ 107 kTotal rfl rfl (by kernel_rfl) Tryz.underlying35 opTotal (by decide) c13 rfl
  have hz := hg 14 _ rfl
  have hlt : 14 < xs.length := by rw [hx]; decide
  rw [List.getElem?_eq_getElem hlt] at hz
  obtain ⟨⟨z, hcz⟩, hm⟩ : (∃ z : Int, [c14] = [.int .i64 z]) ∧ ∀ u ∈ [c14], Mild u := by
   have := (opI).op hz
   have e := this.1.1
   obtain ⟨z, hz⟩ := e
   exact ⟨⟨z, by rw [← hz]⟩, this.2⟩
  injection hcz with hcz _
  subst hcz
  obtain ⟨rfl, h0⟩ := h0
  obtain ⟨rfl, h1⟩ := h1
  obtain ⟨rfl, h2⟩ := h2
  obtain ⟨rfl, h3⟩ := h3
  obtain ⟨rfl, h4⟩ := h4
  obtain ⟨rfl, h5⟩ := h5
  obtain ⟨rfl, h6⟩ := h6
  obtain ⟨rfl, h7⟩ := h7
  obtain ⟨rfl, h8⟩ := h8
  obtain ⟨rfl, h9⟩ := h9
  obtain ⟨rfl, h10⟩ := h10
  obtain ⟨rfl, h11⟩ := h11
  obtain ⟨rfl, h12⟩ := h12
  obtain ⟨rfl, h13⟩ := h13
  refine ⟨⟨at14 q0.1 q1.1 q2.1 q3.1 q4.1 q5.1 q6.1 q7.1 q8.1 q9.1 q10.1 q11.1 q12.1 q13.1 none, at14 q0.2.1 q1.2.1 q2.2.1 q3.2.1 q4.2.1 q5.2.1 q6.2.1 q7.2.1 q8.2.1 q9.2.1 q10.2.1 q11.2.1 q12.2.1 q13.2.1 0, at14 q0.2.2.1 q1.2.2.1 q2.2.2.1 q3.2.2.1 q4.2.2.1 q5.2.2.1 q6.2.2.1 q7.2.2.1 q8.2.2.1 q9.2.2.1 q10.2.2.1 q11.2.2.1 q12.2.2.1 q13.2.2.1 0, z⟩, at14 q0.2.2.2 q1.2.2.2 q2.2.2.2 q3.2.2.2 q4.2.2.2 q5.2.2.2 q6.2.2.2 q7.2.2.2 q8.2.2.2 q9.2.2.2 q10.2.2.2 q11.2.2.2 q12.2.2.2 q13.2.2.2 [], rfl, ?_⟩
  have hall : ∀ i, i < 14 → LIn (kOf i) W (.slice (at14 q0.1 q1.1 q2.1 q3.1 q4.1 q5.1 q6.1 q7.1 q8.1 q9.1 q10.1 q11.1 q12.1 q13.1 none i) (at14 q0.2.1 q1.2.1 q2.2.1 q3.2.1 q4.2.1 q5.2.1 q6.2.1 q7.2.1 q8.2.1 q9.2.1 q10.2.1 q11.2.1 q12.2.1 q13.2.1 0 i) (at14 q0.2.2.1 q1.2.2.1 q2.2.2.1 q3.2.2.1 q4.2.2.1 q5.2.2.1 q6.2.2.1 q7.2.2.1 q8.2.2.1 q9.2.2.1 q10.2.2.1 q11.2.2.1 q12.2.2.1 q13.2.2.1 0 i)) (at14 q0.1 q1.1 q2.1 q3.1 q4.1 q5.1 q6.1 q7.1 q8.1 q9.1 q10.1 q11.1 q12.1 q13.1 none i) (at14 q0.2.1 q1.2.1 q2.2.1 q3.2.1 q4.2.1 q5.2.1 q6.2.1 q7.2.1 q8.2.1 q9.2.1 q10.2.1 q11.2.1 q12.2.1 q13.2.1 0 i) (at14 q0.2.2.1 q1.2.2.1 q2.2.2.1 q3.2.2.1 q4.2.2.1 q5.2.2.1 q6.2.2.1 q7.2.2.1 q8.2.2.1 q9.2.2.1 q10.2.2.1 q11.2.2.1 q12.2.2.1 q13.2.2.1 0 i) (at14 q0.2.2.2 q1.2.2.2 q2.2.2.2 q3.2.2.2 q4.2.2.2 q5.2.2.2 q6.2.2.2 q7.2.2.2 q8.2.2.2 q9.2.2.2 q10.2.2.2 q11.2.2.2 q12.2.2.2 q13.2.2.2 [] i) := fun i hi => by
   match i, hi with
   | 0, _ => exact ⟨rfl, h0⟩
   | 1, _ => exact ⟨rfl, h1⟩
   | 2, _ => exact ⟨rfl, h2⟩
   | 3, _ => exact ⟨rfl, h3⟩
   | 4, _ => exact ⟨rfl, h4⟩
   | 5, _ => exact ⟨rfl, h5⟩
   | 6, _ => exact ⟨rfl, h6⟩
   | 7, _ => exact ⟨rfl, h7⟩
   | 8, _ => exact ⟨rfl, h8⟩
   | 9, _ => exact ⟨rfl, h9⟩
   | 10, _ => exact ⟨rfl, h10⟩
   | 11, _ => exact ⟨rfl, h11⟩
   | 12, _ => exact ⟨rfl, h12⟩
   | 13, _ => exact ⟨rfl, h13⟩
   | i + 14, hi => omega
  exact ⟨fun i hi => (hall i hi).2.1, fun i hi => ⟨(hall i hi).2.2.1, (hall i hi).2.2.2.1⟩, fun i hi => (hall i hi).2.2.2.2.1, fun i hi => (hall i hi).2.2.2.2.2.1, fun i hi => (hall i hi).2.2.2.2.2.2, (show Mild (.int .i64 z) from hm _ (by simp))⟩
/-- A row of items. -/
theorem items_in {A : Option Addr} {len cap : Nat} {d : DataW H} {p : List MemPlace} (h : DataW.Trod enc Tryz.prog W 0 (fun _ => true) true 22 (.slice A len cap) d p) :
 ∃ L : List (List Value), LIn kItem W (.slice A len cap) A len cap L := by
 obtain ⟨fuel, hf⟩ := h
 obtain ⟨A', len', cap', L, h2, h3, h4, h5, h6, h7, h8⟩ := row_in Tryz.underlying22 opItem (by decide) hf
 simp [Value.cells] at h2
 obtain ⟨rfl, rfl, rfl⟩ := h2
 exact ⟨L, rfl, h3, h4, h5, h6, h7, h8⟩
end
abbrev zeroIC : Array Value := #[.string ⟨#[]⟩, .string ⟨#[]⟩, .int .i64 0, .string ⟨#[]⟩, .int .i64 0, .string ⟨#[]⟩, .int .i64 0, .string ⟨#[]⟩, .int .i64 0, .int .i64 0, .int .i64 0, .bool false, .bool false, .bool false]
theorem HIn.ht {h : Hs} {L : Nat → List (List Value)} {w W : World} (H : HIn h L w) (hs : h.small) (hb : Below w.heap.size w W) : HT h L W := fun i hi =>
 ⟨H.n i hi, Nat.le_trans (hs i hi) (Nat.le_trans (cap_le i hi) (by decide)), H.t i hi, ((H.r i hi).below hb).mono hb.size⟩
end Go.Proofs.YtnkhnbpopdmkhaaGreat

namespace Go.Proofs.YtnkhnbpopdmkhaaGreat
open Go.ChangeShapes Go.WideShapes Go.Deep Go.RowKit Go.Joins
set_option linter.unusedVariables false
set_option maxRecDepth 100000

section
variable {H : Type} {enc : TypeId × Value → H} {W : World}
theorem notice_in {r : Reach} {b0 : Nat} {v : Value} {d : DataW H} {p : List MemPlace} (hv : Value.okWide Tryz.prog W r b0 87 v) (h : DataW.Trod enc Tryz.prog W 0 (fun _ => true) true 87 v d p) :
 ∃ cs : List Value, v = .agg cs.toArray ∧ Fits kNotice cs ∧ ∀ u ∈ cs, Mild u := struct_in Tryz.underlying87 opNotice hv h
theorem key_in {r : Reach} {b0 : Nat} {v : Value} {d : DataW H} {p : List MemPlace} (hv : Value.okWide Tryz.prog W r b0 56 v) (h : DataW.Trod enc Tryz.prog W 0 (fun _ => true) true 56 v d p) :
 ∃ cs : List Value, v = .agg cs.toArray ∧ Fits kKey cs ∧ ∀ u ∈ cs, Mild u := struct_in Tryz.underlying56 opKey hv h
end
end Go.Proofs.YtnkhnbpopdmkhaaGreat

namespace Go.Proofs.YtnkhnbpopdmkhaaGreat
set_option linter.unusedVariables false
open Go.RowKit
open Pl (firstG findG putG overG)

set_option maxRecDepth 100000 in
theorem cmpstr_any (a b : ByteArray) (w : World) : Calls Tryz.prog 73 #[.string a, .string b] w fun e w' => e = .returned (.int .i64 (Pl.cmp a b)) ∧ w' = w := by
 have H := Lib.hid (Pl.compare_eq a b)
 go_enter Tryz.func73, Tryz.ntmps73
 go_wp2
 rw [run_callFunc_extern Tryz.func84 (by kernel_rfl) (by kernel_rfl) (by kernel_rfl) (e := Extern.BytealgCompare.compare) (by kernel_rfl), Lib.run_compareString]
 simp only [Result.andThen]
 rw [Oper.upon_value]
 go_wp2
 go_ret
 exact ⟨by rw [← H.out]; rfl, rfl⟩
theorem compare_any (a b : ByteArray) (w : World) : Calls Tryz.prog 45 #[.string a, .string b] w fun e w' => e = .returned (.int .i64 (Pl.cmp a b)) ∧ w' = w := by
 go_enter Tryz.func45, Tryz.ntmps45
 go_wp2_with fail
 refine (cmpstr_any a b _).mono ?_
 rintro e w' ⟨rfl, rfl⟩
 go_wp2_with fail
 go_ret
 exact ⟨rfl, rfl⟩
/-- A thing's code. -/
def codeOf : List Value → ByteArray
 | .string s :: _ => s
 | _ => ByteArray.empty
theorem store_func (P : Program) (w : World) (a : Addr) (m : Mode) (f : Fn) (x y : Array Value) : (store a (.func f x y) m).run P w = stored P w a (.func f x y) m := run_store P w a _ m rfl
/-- Two results: a struct's box, and a value. -/
theorem results_row_tmp {P : Program} {fn : Func} {p q : Tmp} {ty : TypeId} (h : fn.results = #[.cell p ty, .tmp q]) (tmps : Array Value) (w : World) (g : Nat) (t : TypeId) (cs : Array Value) (fr : Nat × Nat) (d : TypeDesc)
 (hp : tmps.getD p undef = .pointer (some ⟨g, 0, none⟩)) (hg : w.heap[g]? = some (.cells cs t fr))
 (hu : P.underlying ty = some d) (hd : (match d with | .struct _ | .array _ _ => true | _ => false) = true) (hi : (P.info? ty).map (·.size) = some cs.size) :
 (results fn tmps).run P w = .ok (.tuple #[.agg cs, tmps.getD q undef]) w := by
 have hp' : tmps[p]?.getD undef = .pointer (some ⟨g, 0, none⟩) := by simpa using hp
 simp [results, h, hp', asAddr, run_loadVar_row w g t ty cs fr d hg hu hd hi]
theorem eqv_of_lt {a b : ByteArray} (h : Pl.lt a b = true) : Pl.eqv a b = false := by
 rw [Bool.eq_false_iff]; intro e
 have := (Pl.eqv_iff a b).1 e
 subst this
 rw [Pl.lt_irrefl] at h; cases h
end Go.Proofs.YtnkhnbpopdmkhaaGreat

namespace Go.Proofs.YtnkhnbpopdmkhaaGreat
set_option linter.unusedVariables false
open Go.RowKit
open Pl (firstG findG putG overG)

def ordItem (a b : List Value) : Int := Pl.cmp (codeOf a) (codeOf b)
theorem code_Item {x : List Value} (h : Fits kItem x) : ∃ r, x = .string (codeOf x) :: r := by
 match x, h with
 | v :: r, h => obtain ⟨d, rfl⟩ := h.1; exact ⟨r, rfl⟩
def zeroItem : List Value := [.string ⟨#[]⟩, .string ⟨#[]⟩, .int .i64 0, .string ⟨#[]⟩, .int .i64 0, .string ⟨#[]⟩, .int .i64 0, .string ⟨#[]⟩, .int .i64 0, .int .i64 0, .int .i64 0, .bool false, .bool false, .bool false]
def keyItem (s : ByteArray) : List Value := [.string s, .string ⟨#[]⟩, .int .i64 0, .string ⟨#[]⟩, .int .i64 0, .string ⟨#[]⟩, .int .i64 0, .string ⟨#[]⟩, .int .i64 0, .int .i64 0, .int .i64 0, .bool false, .bool false, .bool false]
theorem keyItem_fits (s : ByteArray) : Fits kItem (keyItem s) := ⟨⟨_, rfl⟩, ⟨_, rfl⟩, ⟨_, rfl⟩, ⟨_, rfl⟩, ⟨_, rfl⟩, ⟨_, rfl⟩, ⟨_, rfl⟩, ⟨_, rfl⟩, ⟨_, rfl⟩, ⟨_, rfl⟩, ⟨_, rfl⟩, ⟨_, rfl⟩, ⟨_, rfl⟩, ⟨_, rfl⟩, trivial⟩
theorem zeroItem_fits : Fits kItem zeroItem := keyItem_fits _
/-- Where an item of a code stands; the item. -/
def atItem (L : List (List Value)) (s : ByteArray) : Option Nat := findG ordItem L (keyItem s)
def gotItem (L : List (List Value)) (s : ByteArray) : List Value := match atItem L s with | some i => L.getD i zeroItem | none => zeroItem
theorem gotItem_fits {L : List (List Value)} (h : Things kItem L) (s : ByteArray) : Fits kItem (gotItem L s) := by
 unfold gotItem
 split
 · rename_i i hi
   have hl : i < L.length := Pl.firstG_lt hi
   rw [List.getD_eq_getElem?_getD, List.getElem?_eq_getElem hl]
   exact h _ (List.getElem_mem hl)
 · exact zeroItem_fits
theorem atItem_first (L : List (List Value)) (s : ByteArray) : atItem L s = firstG (fun e => Pl.eqv (codeOf e) s) L := by
 unfold atItem findG
 congr 1
 funext e
 exact Pl.cmp_zero _ _
theorem gotItem_none {L : List (List Value)} {s : ByteArray} (h : (atItem L s).isSome = false) : gotItem L s = zeroItem := by
 unfold gotItem
 cases hc : atItem L s with
 | none => rfl
 | some i => rw [hc] at h; cases h
theorem gotItem_code {L : List (List Value)} {s : ByteArray} (h : (atItem L s).isSome = true) : codeOf (gotItem L s) = s := by
 unfold gotItem
 cases hc : atItem L s with
 | none => rw [hc] at h; cases h
 | some i =>
  rw [atItem_first] at hc
  have hl := Pl.firstG_lt hc
  have ha := Pl.firstG_at hc hl
  simp only [List.getD_eq_getElem?_getD, List.getElem?_eq_getElem hl, Option.getD_some]
  exact (Pl.eqv_iff _ _).1 ha
end Go.Proofs.YtnkhnbpopdmkhaaGreat

namespace Go.Proofs.YtnkhnbpopdmkhaaGreat
set_option linter.unusedVariables false
open Go.RowKit
open Pl (firstG findG putG overG)

def ordZone (a b : List Value) : Int := Pl.cmp (codeOf a) (codeOf b)
theorem code_Zone {x : List Value} (h : Fits kZone x) : ∃ r, x = .string (codeOf x) :: r := by
 match x, h with
 | v :: r, h => obtain ⟨d, rfl⟩ := h.1; exact ⟨r, rfl⟩
def zeroZone : List Value := [.string ⟨#[]⟩, .string ⟨#[]⟩]
def keyZone (s : ByteArray) : List Value := [.string s, .string ⟨#[]⟩]
theorem keyZone_fits (s : ByteArray) : Fits kZone (keyZone s) := ⟨⟨_, rfl⟩, ⟨_, rfl⟩, trivial⟩
theorem zeroZone_fits : Fits kZone zeroZone := keyZone_fits _
/-- Where an item of a code stands; the item. -/
def atZone (L : List (List Value)) (s : ByteArray) : Option Nat := findG ordZone L (keyZone s)
def gotZone (L : List (List Value)) (s : ByteArray) : List Value := match atZone L s with | some i => L.getD i zeroZone | none => zeroZone
theorem gotZone_fits {L : List (List Value)} (h : Things kZone L) (s : ByteArray) : Fits kZone (gotZone L s) := by
 unfold gotZone
 split
 · rename_i i hi
   have hl : i < L.length := Pl.firstG_lt hi
   rw [List.getD_eq_getElem?_getD, List.getElem?_eq_getElem hl]
   exact h _ (List.getElem_mem hl)
 · exact zeroZone_fits
theorem atZone_first (L : List (List Value)) (s : ByteArray) : atZone L s = firstG (fun e => Pl.eqv (codeOf e) s) L := by
 unfold atZone findG
 congr 1
 funext e
 exact Pl.cmp_zero _ _
theorem gotZone_none {L : List (List Value)} {s : ByteArray} (h : (atZone L s).isSome = false) : gotZone L s = zeroZone := by
 unfold gotZone
 cases hc : atZone L s with
 | none => rfl
 | some i => rw [hc] at h; cases h
theorem gotZone_code {L : List (List Value)} {s : ByteArray} (h : (atZone L s).isSome = true) : codeOf (gotZone L s) = s := by
 unfold gotZone
 cases hc : atZone L s with
 | none => rw [hc] at h; cases h
 | some i =>
  rw [atZone_first] at hc
  have hl := Pl.firstG_lt hc
  have ha := Pl.firstG_at hc hl
  simp only [List.getD_eq_getElem?_getD, List.getElem?_eq_getElem hl, Option.getD_some]
  exact (Pl.eqv_iff _ _).1 ha
end Go.Proofs.YtnkhnbpopdmkhaaGreat

namespace Go.Proofs.YtnkhnbpopdmkhaaGreat
set_option linter.unusedVariables false
open Go.RowKit
open Pl (firstG findG putG overG)

def ordBin (a b : List Value) : Int := Pl.cmp (codeOf a) (codeOf b)
theorem code_Bin {x : List Value} (h : Fits kBin x) : ∃ r, x = .string (codeOf x) :: r := by
 match x, h with
 | v :: r, h => obtain ⟨d, rfl⟩ := h.1; exact ⟨r, rfl⟩
def zeroBin : List Value := [.string ⟨#[]⟩, .string ⟨#[]⟩, .int .i64 0, .int .i64 0, .int .i64 0, .int .i64 0, .int .i64 0, .bool false]
def keyBin (s : ByteArray) : List Value := [.string s, .string ⟨#[]⟩, .int .i64 0, .int .i64 0, .int .i64 0, .int .i64 0, .int .i64 0, .bool false]
theorem keyBin_fits (s : ByteArray) : Fits kBin (keyBin s) := ⟨⟨_, rfl⟩, ⟨_, rfl⟩, ⟨_, rfl⟩, ⟨_, rfl⟩, ⟨_, rfl⟩, ⟨_, rfl⟩, ⟨_, rfl⟩, ⟨_, rfl⟩, trivial⟩
theorem zeroBin_fits : Fits kBin zeroBin := keyBin_fits _
/-- Where an item of a code stands; the item. -/
def atBin (L : List (List Value)) (s : ByteArray) : Option Nat := findG ordBin L (keyBin s)
def gotBin (L : List (List Value)) (s : ByteArray) : List Value := match atBin L s with | some i => L.getD i zeroBin | none => zeroBin
theorem gotBin_fits {L : List (List Value)} (h : Things kBin L) (s : ByteArray) : Fits kBin (gotBin L s) := by
 unfold gotBin
 split
 · rename_i i hi
   have hl : i < L.length := Pl.firstG_lt hi
   rw [List.getD_eq_getElem?_getD, List.getElem?_eq_getElem hl]
   exact h _ (List.getElem_mem hl)
 · exact zeroBin_fits
theorem atBin_first (L : List (List Value)) (s : ByteArray) : atBin L s = firstG (fun e => Pl.eqv (codeOf e) s) L := by
 unfold atBin findG
 congr 1
 funext e
 exact Pl.cmp_zero _ _
theorem gotBin_none {L : List (List Value)} {s : ByteArray} (h : (atBin L s).isSome = false) : gotBin L s = zeroBin := by
 unfold gotBin
 cases hc : atBin L s with
 | none => rfl
 | some i => rw [hc] at h; cases h
theorem gotBin_code {L : List (List Value)} {s : ByteArray} (h : (atBin L s).isSome = true) : codeOf (gotBin L s) = s := by
 unfold gotBin
 cases hc : atBin L s with
 | none => rw [hc] at h; cases h
 | some i =>
  rw [atBin_first] at hc
  have hl := Pl.firstG_lt hc
  have ha := Pl.firstG_at hc hl
  simp only [List.getD_eq_getElem?_getD, List.getElem?_eq_getElem hl, Option.getD_some]
  exact (Pl.eqv_iff _ _).1 ha
end Go.Proofs.YtnkhnbpopdmkhaaGreat

namespace Go.Proofs.YtnkhnbpopdmkhaaGreat
set_option linter.unusedVariables false
open Go.RowKit
open Pl (firstG findG putG overG)

def ordNotice (a b : List Value) : Int := Pl.cmp (codeOf a) (codeOf b)
theorem code_Notice {x : List Value} (h : Fits kNotice x) : ∃ r, x = .string (codeOf x) :: r := by
 match x, h with
 | v :: r, h => obtain ⟨d, rfl⟩ := h.1; exact ⟨r, rfl⟩
def zeroNotice : List Value := [.string ⟨#[]⟩, .string ⟨#[]⟩, .string ⟨#[]⟩, .int .i64 0, .int .i64 0, .int .i64 0, .int .i64 0, .int .i64 0, .string ⟨#[]⟩, .int .i64 0, .int .i64 0, .int .i64 0, .int .i64 0, .int .i64 0, .string ⟨#[]⟩, .int .i64 0, .int .i64 0, .int .i64 0, .int .i64 0, .int .i64 0, .string ⟨#[]⟩, .int .i64 0, .int .i64 0, .int .i64 0, .int .i64 0, .int .i64 0, .string ⟨#[]⟩, .int .i64 0, .int .i64 0, .int .i64 0, .int .i64 0, .int .i64 0, .string ⟨#[]⟩, .int .i64 0, .int .i64 0, .int .i64 0, .int .i64 0, .int .i64 0, .string ⟨#[]⟩, .int .i64 0, .int .i64 0, .int .i64 0, .int .i64 0, .int .i64 0, .string ⟨#[]⟩, .int .i64 0, .int .i64 0, .int .i64 0, .int .i64 0, .int .i64 0, .bool false]
def keyNotice (s : ByteArray) : List Value := [.string s, .string ⟨#[]⟩, .string ⟨#[]⟩, .int .i64 0, .int .i64 0, .int .i64 0, .int .i64 0, .int .i64 0, .string ⟨#[]⟩, .int .i64 0, .int .i64 0, .int .i64 0, .int .i64 0, .int .i64 0, .string ⟨#[]⟩, .int .i64 0, .int .i64 0, .int .i64 0, .int .i64 0, .int .i64 0, .string ⟨#[]⟩, .int .i64 0, .int .i64 0, .int .i64 0, .int .i64 0, .int .i64 0, .string ⟨#[]⟩, .int .i64 0, .int .i64 0, .int .i64 0, .int .i64 0, .int .i64 0, .string ⟨#[]⟩, .int .i64 0, .int .i64 0, .int .i64 0, .int .i64 0, .int .i64 0, .string ⟨#[]⟩, .int .i64 0, .int .i64 0, .int .i64 0, .int .i64 0, .int .i64 0, .string ⟨#[]⟩, .int .i64 0, .int .i64 0, .int .i64 0, .int .i64 0, .int .i64 0, .bool false]
theorem keyNotice_fits (s : ByteArray) : Fits kNotice (keyNotice s) := ⟨⟨_, rfl⟩, ⟨_, rfl⟩, ⟨_, rfl⟩, ⟨_, rfl⟩, ⟨_, rfl⟩, ⟨_, rfl⟩, ⟨_, rfl⟩, ⟨_, rfl⟩, ⟨_, rfl⟩, ⟨_, rfl⟩, ⟨_, rfl⟩, ⟨_, rfl⟩, ⟨_, rfl⟩, ⟨_, rfl⟩, ⟨_, rfl⟩, ⟨_, rfl⟩, ⟨_, rfl⟩, ⟨_, rfl⟩, ⟨_, rfl⟩, ⟨_, rfl⟩, ⟨_, rfl⟩, ⟨_, rfl⟩, ⟨_, rfl⟩, ⟨_, rfl⟩, ⟨_, rfl⟩, ⟨_, rfl⟩, ⟨_, rfl⟩, ⟨_, rfl⟩, ⟨_, rfl⟩, ⟨_, rfl⟩, ⟨_, rfl⟩, ⟨_, rfl⟩, ⟨_, rfl⟩, ⟨_, rfl⟩, ⟨_, rfl⟩, ⟨_, rfl⟩, ⟨_, rfl⟩, ⟨_, rfl⟩, ⟨_, rfl⟩, ⟨_, rfl⟩, ⟨_, rfl⟩, ⟨_, rfl⟩, ⟨_, rfl⟩, ⟨_, rfl⟩, ⟨_, rfl⟩, ⟨_, rfl⟩, ⟨_, rfl⟩, ⟨_, rfl⟩, ⟨_, rfl⟩, ⟨_, rfl⟩, ⟨_, rfl⟩, trivial⟩
theorem zeroNotice_fits : Fits kNotice zeroNotice := keyNotice_fits _
/-- Where an item of a code stands; the item. -/
def atNotice (L : List (List Value)) (s : ByteArray) : Option Nat := findG ordNotice L (keyNotice s)
def gotNotice (L : List (List Value)) (s : ByteArray) : List Value := match atNotice L s with | some i => L.getD i zeroNotice | none => zeroNotice
theorem gotNotice_fits {L : List (List Value)} (h : Things kNotice L) (s : ByteArray) : Fits kNotice (gotNotice L s) := by
 unfold gotNotice
 split
 · rename_i i hi
   have hl : i < L.length := Pl.firstG_lt hi
   rw [List.getD_eq_getElem?_getD, List.getElem?_eq_getElem hl]
   exact h _ (List.getElem_mem hl)
 · exact zeroNotice_fits
theorem atNotice_first (L : List (List Value)) (s : ByteArray) : atNotice L s = firstG (fun e => Pl.eqv (codeOf e) s) L := by
 unfold atNotice findG
 congr 1
 funext e
 exact Pl.cmp_zero _ _
theorem gotNotice_none {L : List (List Value)} {s : ByteArray} (h : (atNotice L s).isSome = false) : gotNotice L s = zeroNotice := by
 unfold gotNotice
 cases hc : atNotice L s with
 | none => rfl
 | some i => rw [hc] at h; cases h
theorem gotNotice_code {L : List (List Value)} {s : ByteArray} (h : (atNotice L s).isSome = true) : codeOf (gotNotice L s) = s := by
 unfold gotNotice
 cases hc : atNotice L s with
 | none => rw [hc] at h; cases h
 | some i =>
  rw [atNotice_first] at hc
  have hl := Pl.firstG_lt hc
  have ha := Pl.firstG_at hc hl
  simp only [List.getD_eq_getElem?_getD, List.getElem?_eq_getElem hl, Option.getD_some]
  exact (Pl.eqv_iff _ _).1 ha
end Go.Proofs.YtnkhnbpopdmkhaaGreat

namespace Go.Proofs.YtnkhnbpopdmkhaaGreat.Pl
set_option linter.unusedVariables false

/-- Is the i'th place of that name, a unit? -/
def fitU (x : It) (s : ByteArray) (i : Nat) : Bool := decide ((x.nm i).size ≠ 0) && eqv (x.nm i) s && decide (2 ≤ x.fc i)
/-- A unit's factor; 0: there is none. -/
def factorU (x : It) (s : ByteArray) : Int := if eqv s each = true then 1 else match (List.range 4).find? (fitU x s) with | some i => x.fc i | none => 0
theorem factorU_cases (x : It) (s : ByteArray) : factorU x s = 0 ∨ factorU x s = 1 ∨ 2 ≤ factorU x s := by
 unfold factorU
 split
 · exact .inr (.inl rfl)
 · split
   · rename_i i hi
     have := List.find?_some hi
     unfold fitU at this
     simp only [Bool.and_eq_true, decide_eq_true_eq] at this
     exact .inr (.inr this.2)
   · exact .inl rfl
theorem find_first {p : Nat → Bool} {n i : Nat} (hi : i < n) (hp : p i = true) (hb : ∀ k, k < i → p k = false) : (List.range n).find? p = some i := by
 rw [List.find?_range_eq_some]
 exact ⟨hp, by simpa using hi, fun k hk => by simpa using hb k hk⟩
theorem find_none {p : Nat → Bool} {n : Nat} (hb : ∀ k, k < n → p k = false) : (List.range n).find? p = none := by
 rw [List.find?_eq_none]
 intro k hk
 rw [hb k (List.mem_range.1 hk)]; simp
/-- How many base units so many of a unit are, and what is wrong. -/
def baseU (x : It) (s : ByteArray) (n : Int) : Int := if factorU x s = 0 then 0 else if n < 1 ∨ 1000000000 < n * factorU x s then 0 else n * factorU x s
def baseE (x : It) (s : ByteArray) (n : Int) : Nat := if factorU x s = 0 then 20 else if n < 1 ∨ 1000000000 < n * factorU x s then 10 else 0
theorem over_iff {f n : Int} (hf : 1 ≤ f) : (1000000000 : Int) / f < n ↔ 1000000000 < n * f := by
 rw [Int.ediv_lt_iff_lt_mul (by omega)]

/-- Does the i'th place count: the first unit of its name, not that of the base unit? -/
def validU (x : It) (i : Nat) : Bool := decide ((x.nm i).size ≠ 0) && !eqv (x.nm i) each && decide (2 ≤ x.fc i) && (List.range i).all fun k => !(eqv (x.nm k) (x.nm i) && decide (2 ≤ x.fc k))
/-- Is z more than that unit's factor? -/
def moreU (x : It) (o : Option Nat) (z : Int) : Bool := match o with
 | none => true
 | some a => decide (x.fc a < z)
/-- The greatest unit that was not used yet, of the first n. -/
def bestU (x : It) (used : Nat → Bool) : Nat → Option Nat
 | 0 => none
 | n + 1 => if validU x n && !used n && moreU x (bestU x used n) (x.fc n) then some n else bestU x used n
theorem bestU_valid {x : It} {used : Nat → Bool} : ∀ {n a : Nat}, bestU x used n = some a → a < n ∧ validU x a = true ∧ used a = false
 | 0, a, h => by cases h
 | n + 1, a, h => by
  unfold bestU at h
  by_cases hc : (validU x n && !used n && moreU x (bestU x used n) (x.fc n)) = true
  · rw [if_pos hc] at h
    injection h with h
    subst h
    simp only [Bool.and_eq_true, Bool.not_eq_true'] at hc
    exact ⟨by omega, hc.1.1, hc.1.2⟩
  · rw [if_neg hc] at h
    obtain ⟨h1, h2⟩ := bestU_valid h
    exact ⟨by omega, h2⟩
def useU (used : Nat → Bool) (a : Nat) : Nat → Bool := fun i => if i = a then true else used i
/-- The units in the order of decreasing factors. -/
def picksU (x : It) : (Nat → Bool) → Nat → List Nat
 | _, 0 => []
 | used, f + 1 => match bestU x used 4 with
  | none => []
  | some a => a :: picksU x (useU used a) f
theorem picksU_valid {x : It} : ∀ {f : Nat} {used : Nat → Bool} {i : Nat}, i ∈ picksU x used f → i < 4 ∧ validU x i = true
 | 0, _, i, h => by simp [picksU] at h
 | f + 1, used, i, h => by
  unfold picksU at h
  split at h
  · simp at h
  · rename_i a ha
    rcases List.mem_cons.1 h with rfl | h
    · exact ⟨(bestU_valid ha).1, (bestU_valid ha).2.1⟩
    · exact picksU_valid h
/-- What is left of b goes into these units, one behind the other, and into base units. -/
def runU (x : It) : List Nat → Int → List (ByteArray × Int)
 | [], b => if 0 < b then [(each, b)] else []
 | i :: l, b => if 0 < max b 0 / x.fc i then (x.nm i, max b 0 / x.fc i) :: runU x l (b - max b 0 / x.fc i * x.fc i) else runU x l b
def splitU (x : It) (b : Int) : List (ByteArray × Int) := runU x (picksU x (fun _ => false) 4) b
theorem valid_spec {x : It} {i : Nat} (h : validU x i = true) : (x.nm i).size ≠ 0 ∧ eqv (x.nm i) each = false ∧ 2 ≤ x.fc i ∧ ∀ k, k < i → (eqv (x.nm k) (x.nm i) && decide (2 ≤ x.fc k)) = false := by
 unfold validU at h
 simp only [Bool.and_eq_true, decide_eq_true_eq, Bool.not_eq_true', List.all_eq_true, List.mem_range] at h
 exact ⟨h.1.1.1, h.1.1.2, h.1.2, fun k hk => by simpa using h.2 k hk⟩
theorem factor_valid {x : It} {i : Nat} (hi : i < 4) (h : validU x i = true) : factorU x (x.nm i) = x.fc i := by
 obtain ⟨h1, h2, h3, h4⟩ := valid_spec h
 unfold factorU
 rw [h2, if_neg (by simp), find_first hi (by unfold fitU; simp [h1, h3, (eqv_iff _ _).2]) (fun k hk => ?_)]
 have := h4 k hk
 unfold fitU
 cases he : eqv (x.nm k) (x.nm i) with
 | false => simp
 | true => rw [he] at this; simp at this; simp; omega
/-- The sum of what units are in base units. -/
def sumU (x : It) : List (ByteArray × Int) → Int
 | [] => 0
 | p :: l => p.2 * factorU x p.1 + sumU x l
theorem factor_each (x : It) : factorU x each = 1 := by unfold factorU; rw [if_pos ((eqv_iff _ _).2 rfl)]
theorem runU_sum {x : It} : ∀ {l : List Nat} {b : Int}, (∀ i ∈ l, i < 4 ∧ validU x i = true) → 0 ≤ b → sumU x (runU x l b) = b
 | [], b, _, hb => by
  unfold runU
  split
  · simp [sumU, factor_each]
  · simp [sumU]; omega
 | i :: l, b, hl, hb => by
  have hi := hl i (List.mem_cons_self ..)
  have hf := (valid_spec hi.2).2.2.1
  have hm : max b 0 = b := by omega
  unfold runU
  rw [hm]
  have hle : b / x.fc i * x.fc i ≤ b := Int.ediv_mul_le b (by omega)
  split
  · show b / x.fc i * factorU x (x.nm i) + sumU x _ = b
    rw [factor_valid hi.1 hi.2, runU_sum (fun k hk => hl k (List.mem_cons_of_mem _ hk)) (by omega)]
    omega
  · exact runU_sum (fun k hk => hl k (List.mem_cons_of_mem _ hk)) hb
theorem runU_each {x : It} : ∀ {l : List Nat} {b c : Int}, (∀ i ∈ l, i < 4 ∧ validU x i = true) → 0 ≤ b → b ≤ c → ∀ p ∈ runU x l b, 1 ≤ p.2 ∧ 1 ≤ factorU x p.1 ∧ p.2 * factorU x p.1 ≤ c
 | [], b, c, _, hb, hc, p, hp => by
  unfold runU at hp
  split at hp
  · rw [List.mem_singleton] at hp
    subst hp
    rw [factor_each]; simp only []; omega
  · simp at hp
 | i :: l, b, c, hl, hb, hc, p, hp => by
  have hi := hl i (List.mem_cons_self ..)
  have hf := (valid_spec hi.2).2.2.1
  have hm : max b 0 = b := by omega
  unfold runU at hp
  rw [hm] at hp
  have hle : b / x.fc i * x.fc i ≤ b := Int.ediv_mul_le b (by omega)
  have hnn : 0 ≤ b / x.fc i * x.fc i := Int.mul_nonneg (Int.ediv_nonneg hb (by omega)) (by omega)
  split at hp
  · rename_i hn
    rcases List.mem_cons.1 hp with rfl | hp
    · show 1 ≤ b / x.fc i ∧ 1 ≤ factorU x (x.nm i) ∧ b / x.fc i * factorU x (x.nm i) ≤ c
      rw [factor_valid hi.1 hi.2]
      exact ⟨hn, by omega, by omega⟩
    · exact runU_each (fun k hk => hl k (List.mem_cons_of_mem _ hk)) (by omega) (by omega) p hp
  · exact runU_each (fun k hk => hl k (List.mem_cons_of_mem _ hk)) hb hc p hp
theorem runU_nil {x : It} : ∀ {l : List Nat} {b : Int}, (∀ i ∈ l, i < 4 ∧ validU x i = true) → b < 1 → runU x l b = []
 | [], b, _, hb => by unfold runU; rw [if_neg (by omega)]
 | i :: l, b, hl, hb => by
  have hm : max b 0 = 0 := by omega
  unfold runU
  rw [hm, Int.zero_ediv, if_neg (by omega)]
  exact runU_nil (fun k hk => hl k (List.mem_cons_of_mem _ hk)) hb
theorem splitU_sum (x : It) {b : Int} (hb : 0 ≤ b) : sumU x (splitU x b) = b := runU_sum (fun i hi => picksU_valid hi) hb
theorem splitU_each (x : It) {b : Int} (hb : 0 ≤ b) : ∀ p ∈ splitU x b, 1 ≤ p.2 ∧ 1 ≤ factorU x p.1 ∧ p.2 * factorU x p.1 ≤ b := runU_each (fun i hi => picksU_valid hi) hb (Int.le_refl b)
theorem splitU_nil (x : It) {b : Int} (hb : b < 1) : splitU x b = [] := runU_nil (fun i hi => picksU_valid hi) hb
theorem baseU_ok {x : It} {s : ByteArray} {n : Int} (hn : 1 ≤ n) (hf : 1 ≤ factorU x s) (hm : n * factorU x s ≤ 1000000000) : baseU x s n = n * factorU x s ∧ baseE x s n = 0 := by
 unfold baseU baseE
 rw [if_neg (by omega), if_neg (by omega), if_neg (by omega), if_neg (by omega)]
 exact ⟨rfl, rfl⟩
theorem runU_len {x : It} : ∀ (l : List Nat) (b : Int), (runU x l b).length ≤ l.length + 1
 | [], b => by unfold runU; split <;> simp
 | i :: l, b => by
  unfold runU
  split
  · have := runU_len (x := x) l (b - max b 0 / x.fc i * x.fc i)
    simp only [List.length_cons]; omega
  · have := runU_len (x := x) l b
    simp only [List.length_cons]; omega
end Go.Proofs.YtnkhnbpopdmkhaaGreat.Pl

namespace Go.Proofs.YtnkhnbpopdmkhaaGreat
set_option linter.unusedVariables false
open Go.RowKit
open Pl (firstG findG putG)

def itemL : List Value → ByteArray
 | .string s :: _ => s
 | _ => ⟨#[]⟩
def codeL : List Value → ByteArray
 | _ :: .string s :: _ => s
 | _ => ⟨#[]⟩
def expL : List Value → Int
 | _ :: _ :: .int _ z :: _ => z
 | _ => 0
theorem lot_cells {x : List Value} (h : Fits kLot x) : x = [.string (itemL x), .string (codeL x), .int .i64 (expL x)] := by
 match x, h with
 | [c0, c1, c2], h =>
  obtain ⟨⟨a0, rfl⟩, ⟨a1, rfl⟩, ⟨a2, rfl⟩, _⟩ := h
  rfl
theorem lot_fits (a c : ByteArray) (z : Int) : Fits kLot [.string a, .string c, .int .i64 z] := ⟨⟨_, rfl⟩, ⟨_, rfl⟩, ⟨_, rfl⟩, trivial⟩
/-- The order of lots: by item, then by code. -/
def ordL (x y : List Value) : Int := if Pl.cmp (itemL x) (itemL y) = 0 then Pl.cmp (codeL x) (codeL y) else Pl.cmp (itemL x) (itemL y)
def keyL (a c : ByteArray) : List Value := [.string a, .string c, .int .i64 0]
def zeroL : List Value := [.string ⟨#[]⟩, .string ⟨#[]⟩, .int .i64 0]
theorem keyL_fits (a c : ByteArray) : Fits kLot (keyL a c) := lot_fits a c 0
theorem zeroL_fits : Fits kLot zeroL := keyL_fits _ _
def atL (L : List (List Value)) (a c : ByteArray) : Option Nat := findG ordL L (keyL a c)
def gotL (L : List (List Value)) (a c : ByteArray) : List Value := match atL L a c with | some i => L.getD i zeroL | none => zeroL
theorem gotL_fits {L : List (List Value)} (h : Things kLot L) (a c : ByteArray) : Fits kLot (gotL L a c) := by
 unfold gotL
 cases hf : atL L a c with
 | none => exact zeroL_fits
 | some i =>
  have hi : i < L.length := Pl.firstG_lt hf
  simp only [List.getD_eq_getElem?_getD, List.getElem?_eq_getElem hi, Option.getD_some]
  exact h _ (List.getElem_mem hi)
theorem cmp_eq_zeroL (a b : ByteArray) : Pl.cmp a b = 0 ↔ Pl.eqv a b = true := by
 have := Pl.cmp_zero a b
 constructor
 · intro h; rw [h] at this; exact this.symm
 · intro h; rw [h] at this; simpa using this
theorem ordL_zero (x y : List Value) : (ordL x y == 0) = (Pl.eqv (itemL x) (itemL y) && Pl.eqv (codeL x) (codeL y)) := by
 unfold ordL
 by_cases h : Pl.cmp (itemL x) (itemL y) = 0
 · rw [if_pos h, (cmp_eq_zeroL _ _).1 h, Bool.true_and]; exact Pl.cmp_zero _ _
 · rw [if_neg h]
   have : Pl.eqv (itemL x) (itemL y) = false := by
    cases hq : Pl.eqv (itemL x) (itemL y) with
    | false => rfl
    | true => exact absurd ((cmp_eq_zeroL _ _).2 hq) h
   rw [this, Bool.false_and]
   simpa using h
theorem atL_first (L : List (List Value)) (a c : ByteArray) : atL L a c = firstG (fun e => Pl.eqv (itemL e) a && Pl.eqv (codeL e) c) L := by
 unfold atL findG
 congr 1
 funext e
 exact ordL_zero e (keyL a c)
/-- Does an item go by lots, by pieces? -/
def lotsI : List Value → Bool
 | [_, _, _, _, _, _, _, _, _, _, _, .bool b, _, _] => b
 | _ => false
def serI : List Value → Bool
 | [_, _, _, _, _, _, _, _, _, _, _, _, .bool b, _] => b
 | _ => false
/-- A quant's item, lot, number. -/
def itemQ : List Value → ByteArray
 | _ :: .string s :: _ => s
 | _ => ⟨#[]⟩
def lotQ : List Value → ByteArray
 | _ :: _ :: .string s :: _ => s
 | _ => ⟨#[]⟩
def qtyQ : List Value → Int
 | [_, _, _, _, .int _ z, _] => z
 | _ => 0
theorem quant_cells {x : List Value} (h : Fits kQuant x) : ∃ b s t, x = [.string b, .string (itemQ x), .string (lotQ x), .int .i64 s, .int .i64 (qtyQ x), .int .i64 t] := by
 match x, h with
 | [c0, c1, c2, c3, c4, c5], h =>
  obtain ⟨⟨a0, rfl⟩, ⟨a1, rfl⟩, ⟨a2, rfl⟩, ⟨a3, rfl⟩, ⟨a4, rfl⟩, ⟨a5, rfl⟩, _⟩ := h
  exact ⟨_, _, _, rfl⟩
/-- Is it a quant of that item and lot? -/
def ofQ (a c : ByteArray) (q : List Value) : Bool := Pl.eqv (itemQ q) a && Pl.eqv (lotQ q) c
/-- How many there are, on top of n. -/
def sumQ (a c : ByteArray) (Q : List (List Value)) (n : Int) : Int := Q.foldl (fun n q => if ofQ a c q = true then wrap64 (n + qtyQ q) else n) n
def totQ (a c : ByteArray) : List (List Value) → Int
 | [] => 0
 | q :: Q => (if ofQ a c q = true then qtyQ q else 0) + totQ a c Q
theorem wrap_add (x y : Int) : wrap64 (wrap64 x + y) = wrap64 (x + y) := by
 unfold wrap64
 omega
theorem wrap_id {z : Int} (h : -9223372036854775808 ≤ z ∧ z ≤ 9223372036854775807) : wrap64 z = z := IntWalk.wrap64_in z ⟨by omega, by omega⟩
theorem sumQ_tot (a c : ByteArray) : ∀ (Q : List (List Value)) (n : Int), (-9223372036854775808 ≤ n ∧ n ≤ 9223372036854775807) → sumQ a c Q n = wrap64 (n + totQ a c Q)
 | [], n, h => by show n = wrap64 (n + 0); rw [Int.add_zero, wrap_id h]
 | q :: Q, n, h => by
  show sumQ a c Q (if ofQ a c q = true then wrap64 (n + qtyQ q) else n) = wrap64 (n + ((if ofQ a c q = true then qtyQ q else 0) + totQ a c Q))
  by_cases hq : ofQ a c q = true
  · rw [if_pos hq, if_pos hq, sumQ_tot a c Q _ (by unfold wrap64; omega), wrap_add]
    congr 1; omega
  · rw [if_neg hq, if_neg hq, sumQ_tot a c Q n h]
    congr 1; omega
theorem sumQ_from (a c : ByteArray) (Q : List (List Value)) (n : Int) (h : -9223372036854775808 ≤ n ∧ n ≤ 9223372036854775807) : wrap64 (n + sumQ a c Q 0) = sumQ a c Q n := by
 rw [sumQ_tot a c Q n h, sumQ_tot a c Q 0 (by omega), Int.add_comm, wrap_add]
 congr 1; omega
theorem sumQ_snoc (a c : ByteArray) (Q : List (List Value)) (k : Nat) (hk : k < Q.length) (n : Int) : sumQ a c (Q.take (k + 1)) n = if ofQ a c Q[k] = true then wrap64 (sumQ a c (Q.take k) n + qtyQ Q[k]) else sumQ a c (Q.take k) n := by
 unfold sumQ
 rw [List.take_succ_eq_append_getElem hk, List.foldl_append]; rfl
/-- May so many of an item come in in a lot? -/
def fitE (LI LL LQ : List (List Value)) (a c : ByteArray) (n : Int) : Nat :=
 if (atItem LI a).isSome = false then 12
 else if (lotsI (gotItem LI a) && !(atL LL a c).isSome || !lotsI (gotItem LI a) && decide (c.size ≠ 0)) = true then 21
 else if (serI (gotItem LI a) && decide (1 < sumQ a c LQ n)) = true then 22 else 0
/-- The last day of a lot. -/
def dayZ (LL : List (List Value)) (a c : ByteArray) : Int := if expL (gotL LL a c) = 0 then 100001 else expL (gotL LL a c)
/-- What is wrong with a lot. -/
def addLE (LI LL : List (List Value)) (x : List Value) : Nat :=
 if (atItem LI (itemL x)).isSome = false then 12
 else if lotsI (gotItem LI (itemL x)) = false then 21
 else if Pl.nmE (codeL x) ≠ 0 then Pl.nmE (codeL x)
 else if expL x < 0 ∨ 100000 < expL x then 5
 else if (atL LL (itemL x) (codeL x)).isSome = true then 11
 else if 128 ≤ LL.length then 14 else 0
end Go.Proofs.YtnkhnbpopdmkhaaGreat

namespace Go.Proofs.YtnkhnbpopdmkhaaGreat
set_option linter.unusedVariables false
open Go.RowKit
open Pl (firstG findG putG)

structure Tl where
 item : ByteArray
 lot : ByteArray
 inn : Int
 out : Int
 back : Int
 fixed : Int
def Tl.cells (x : Tl) : List Value := [.string x.item, .string x.lot, .int .i64 x.inn, .int .i64 x.out, .int .i64 x.back, .int .i64 x.fixed]
def tlOf : List Value → Tl
 | [.string a, .string b, .int _ c, .int _ d, .int _ e, .int _ f] => ⟨a, b, c, d, e, f⟩
 | _ => ⟨⟨#[]⟩, ⟨#[]⟩, 0, 0, 0, 0⟩
theorem tl_cells {x : List Value} (h : Fits kTotal x) : x = (tlOf x).cells := by
 match x, h with
 | [c0, c1, c2, c3, c4, c5], h =>
  obtain ⟨⟨a0, rfl⟩, ⟨a1, rfl⟩, ⟨a2, rfl⟩, ⟨a3, rfl⟩, ⟨a4, rfl⟩, ⟨a5, rfl⟩, _⟩ := h
  rfl
theorem Tl.fits (x : Tl) : Fits kTotal x.cells := ⟨⟨_, rfl⟩, ⟨_, rfl⟩, ⟨_, rfl⟩, ⟨_, rfl⟩, ⟨_, rfl⟩, ⟨_, rfl⟩, trivial⟩
theorem tl_key {x : List Value} (h : Fits kTotal x) : itemL x = (tlOf x).item ∧ codeL x = (tlOf x).lot := by rw [tl_cells h]; exact ⟨rfl, rfl⟩
theorem total_cells {x : List Value} (h : Fits kTotal x) : x = [.string (itemL x), .string (codeL x), .int .i64 (tlOf x).inn, .int .i64 (tlOf x).out, .int .i64 (tlOf x).back, .int .i64 (tlOf x).fixed] := by
 rw [(tl_key h).1, (tl_key h).2]; exact tl_cells h
def zeroT (a c : ByteArray) : List Value := [.string a, .string c, .int .i64 0, .int .i64 0, .int .i64 0, .int .i64 0]
def zeroTT : List Value := zeroT ⟨#[]⟩ ⟨#[]⟩
theorem zeroT_fits (a c : ByteArray) : Fits kTotal (zeroT a c) := Tl.fits ⟨a, c, 0, 0, 0, 0⟩
def gotT (L : List (List Value)) (a c : ByteArray) : List Value := match atL L a c with | some i => L.getD i (zeroT a c) | none => zeroT a c
theorem gotT_fits {L : List (List Value)} (h : Things kTotal L) (a c : ByteArray) : Fits kTotal (gotT L a c) := by
 unfold gotT
 cases hf : atL L a c with
 | none => exact zeroT_fits _ _
 | some i =>
  have hi : i < L.length := Pl.firstG_lt hf
  simp only [List.getD_eq_getElem?_getD, List.getElem?_eq_getElem hi, Option.getD_some]
  exact h _ (List.getElem_mem hi)
/-- So many more came in. -/
def Tl.add (x : Tl) (n : Int) : Tl := ⟨x.item, x.lot, wrap64 (x.inn + n), x.out, x.back, x.fixed⟩
end Go.Proofs.YtnkhnbpopdmkhaaGreat

namespace Go.Proofs.YtnkhnbpopdmkhaaGreat
set_option linter.unusedVariables false
open Go.RowKit
open Pl (firstG findG putG)

/-- A bin. -/
structure Bn where
 code : ByteArray
 zone : ByteArray
 kind : Int
 aisle : Int
 place : Int
 vol : Int
 wei : Int
 frz : Bool
def Bn.cells (x : Bn) : List Value := [.string x.code, .string x.zone, .int .i64 x.kind, .int .i64 x.aisle, .int .i64 x.place, .int .i64 x.vol, .int .i64 x.wei, .bool x.frz]
def bnOf : List Value → Bn
 | [.string a, .string b, .int _ k, .int _ i, .int _ p, .int _ v, .int _ u, .bool f] => ⟨a, b, k, i, p, v, u, f⟩
 | _ => ⟨⟨#[]⟩, ⟨#[]⟩, 0, 0, 0, 0, 0, false⟩
theorem bn_cells {x : List Value} (h : Fits kBin x) : x = (bnOf x).cells := by
 match x, h with
 | [c0, c1, c2, c3, c4, c5, c6, c7], h =>
  obtain ⟨⟨a0, rfl⟩, ⟨a1, rfl⟩, ⟨a2, rfl⟩, ⟨a3, rfl⟩, ⟨a4, rfl⟩, ⟨a5, rfl⟩, ⟨a6, rfl⟩, ⟨a7, rfl⟩, _⟩ := h
  rfl
theorem Bn.fits (x : Bn) : Fits kBin x.cells := ⟨⟨_, rfl⟩, ⟨_, rfl⟩, ⟨_, rfl⟩, ⟨_, rfl⟩, ⟨_, rfl⟩, ⟨_, rfl⟩, ⟨_, rfl⟩, ⟨_, rfl⟩, trivial⟩
theorem bnOf_cells (x : Bn) : bnOf x.cells = x := rfl
theorem codeOf_bn (x : Bn) : codeOf x.cells = x.code := rfl
theorem bin_eight {h : Hs} {L : Nat → List (List Value)} {w : World} (hh : HT h L w) (s : ByteArray) : ∃ x : Bn, gotBin (L 3) s = x.cells ∧ bnOf (gotBin (L 3) s) = x :=
 ⟨_, bn_cells (gotBin_fits (hh 3 (by decide)).2.2.1 s), rfl⟩
/-- A quant. -/
structure Qn where
 bin : ByteArray
 item : ByteArray
 lot : ByteArray
 st : Int
 qty : Int
 held : Int
def Qn.cells (x : Qn) : List Value := [.string x.bin, .string x.item, .string x.lot, .int .i64 x.st, .int .i64 x.qty, .int .i64 x.held]
def qnOf : List Value → Qn
 | [.string a, .string b, .string c, .int _ s, .int _ q, .int _ l] => ⟨a, b, c, s, q, l⟩
 | _ => ⟨⟨#[]⟩, ⟨#[]⟩, ⟨#[]⟩, 0, 0, 0⟩
theorem qn_cells {x : List Value} (h : Fits kQuant x) : x = (qnOf x).cells := by
 match x, h with
 | [c0, c1, c2, c3, c4, c5], h =>
  obtain ⟨⟨a0, rfl⟩, ⟨a1, rfl⟩, ⟨a2, rfl⟩, ⟨a3, rfl⟩, ⟨a4, rfl⟩, ⟨a5, rfl⟩, _⟩ := h
  rfl
theorem Qn.fits (x : Qn) : Fits kQuant x.cells := ⟨⟨_, rfl⟩, ⟨_, rfl⟩, ⟨_, rfl⟩, ⟨_, rfl⟩, ⟨_, rfl⟩, ⟨_, rfl⟩, trivial⟩
theorem qnOf_cells (x : Qn) : qnOf x.cells = x := rfl
end Go.Proofs.YtnkhnbpopdmkhaaGreat

namespace Go.Proofs.YtnkhnbpopdmkhaaGreat
set_option linter.unusedVariables false
open Go.RowKit
open Pl (firstG findG putG It)

/-- An item by its fields. -/
def itOf : List Value → It
 | [.string c, .string n0, .int _ f0, .string n1, .int _ f1, .string n2, .int _ f2, .string n3, .int _ f3, .int _ v, .int _ w, .bool l, .bool s, .bool k] => ⟨c, Pl.at4 n0 n1 n2 n3, Pl.at4 f0 f1 f2 f3, v, w, l, s, k⟩
 | _ => ⟨⟨#[]⟩, fun _ => ⟨#[]⟩, fun _ => 0, 0, 0, false, false, false⟩
theorem it_cells {x : List Value} (h : Fits kItem x) : x = (itOf x).cells := by
 match x, h with
 | [c0, c1, c2, c3, c4, c5, c6, c7, c8, c9, c10, c11, c12, c13], h =>
  obtain ⟨⟨a0, rfl⟩, ⟨a1, rfl⟩, ⟨a2, rfl⟩, ⟨a3, rfl⟩, ⟨a4, rfl⟩, ⟨a5, rfl⟩, ⟨a6, rfl⟩, ⟨a7, rfl⟩, ⟨a8, rfl⟩, ⟨a9, rfl⟩, ⟨a10, rfl⟩, ⟨a11, rfl⟩, ⟨a12, rfl⟩, ⟨a13, rfl⟩, _⟩ := h
  rfl
theorem item_it {h : Hs} {L : Nat → List (List Value)} {w : World} (hh : HT h L w) (s : ByteArray) : ∃ x : It, gotItem (L 0) s = x.cells ∧ itOf (gotItem (L 0) s) = x :=
 ⟨_, it_cells (gotItem_fits (hh 0 (by decide)).2.2.1 s), rfl⟩
/-- One quant more. -/
def loadQ (LI : List (List Value)) (s : ByteArray) (p : Int × Int) (q : List Value) : Int × Int :=
 if (Pl.eqv (qnOf q).bin s && (atItem LI (qnOf q).item).isSome) = true then (wrap64 (p.1 + wrap64 ((qnOf q).qty * (itOf (gotItem LI (qnOf q).item)).vol)), wrap64 (p.2 + wrap64 ((qnOf q).qty * (itOf (gotItem LI (qnOf q).item)).wei))) else p
/-- What stands in a bin: volume and weight. -/
def loadP (LI LQ : List (List Value)) (s : ByteArray) : Int × Int := LQ.foldl (loadQ LI s) (0, 0)
theorem loadP_snoc (LI LQ : List (List Value)) (s : ByteArray) (k : Nat) (hk : k < LQ.length) : loadP LI (LQ.take (k + 1)) s = loadQ LI s (loadP LI (LQ.take k) s) LQ[k] := by
 unfold loadP
 rw [List.take_succ_eq_append_getElem hk, List.foldl_append]; rfl
/-- Do so many of an item more go into a bin? -/
def roomE (LI LB LQ : List (List Value)) (s t : ByteArray) (n : Int) : Nat :=
 if ((atBin LB s).isSome && (atItem LI t).isSome) = false then 12
 else if (bnOf (gotBin LB s)).vol < wrap64 ((loadP LI LQ s).1 + wrap64 (n * (itOf (gotItem LI t)).vol)) ∨ (bnOf (gotBin LB s)).wei < wrap64 ((loadP LI LQ s).2 + wrap64 (n * (itOf (gotItem LI t)).wei)) then 26 else 0
/-- Is a bin overfull? -/
def fullB (LI LQ : List (List Value)) (b : Bn) : Bool := decide (b.vol < (loadP LI LQ b.code).1) || decide (b.wei < (loadP LI LQ b.code).2)
/-- The bins that are. -/
def overL (LI LB LQ : List (List Value)) : List ByteArray := (LB.filter fun e => fullB LI LQ (bnOf e)).map codeOf
theorem overL_snoc (LI LB LQ : List (List Value)) (k : Nat) (hk : k < LB.length) : overL LI (LB.take (k + 1)) LQ = overL LI (LB.take k) LQ ++ (if fullB LI LQ (bnOf LB[k]) = true then [codeOf LB[k]] else []) := by
 unfold overL
 rw [List.take_succ_eq_append_getElem hk, List.filter_append, List.map_append]
 congr 1
 by_cases h : fullB LI LQ (bnOf LB[k]) = true
 · rw [if_pos h]; simp [h]
 · rw [if_neg h]; simp [h]
theorem overL_le (LI LB LQ : List (List Value)) : (overL LI LB LQ).length ≤ LB.length := by
 unfold overL; rw [List.length_map]; exact List.length_filter_le _ _
/-- Does a quant of an item stand in a bin? -/
def standsQ (LQ : List (List Value)) (s t : ByteArray) : Bool := LQ.any fun q => Pl.eqv (qnOf q).bin s && Pl.eqv (qnOf q).item t
theorem standsQ_snoc (LQ : List (List Value)) (s t : ByteArray) (k : Nat) (hk : k < LQ.length) : standsQ (LQ.take (k + 1)) s t = (standsQ (LQ.take k) s t || (Pl.eqv (qnOf LQ[k]).bin s && Pl.eqv (qnOf LQ[k]).item t)) := by
 unfold standsQ
 rw [List.take_succ_eq_append_getElem hk, List.any_append]; simp
/-- An item, a bin with other measures. -/
def itSize (x : It) (v u : Int) : It := ⟨x.code, x.nm, x.fc, v, u, x.lots, x.serial, x.chk⟩
def bnSize (x : Bn) (v u : Int) : Bn := ⟨x.code, x.zone, x.kind, x.aisle, x.place, v, u, x.frz⟩
def resL (LI : List (List Value)) (t : ByteArray) (v u : Int) : List (List Value) := putG ordItem LI (itSize (itOf (gotItem LI t)) v u).cells
/-- Would a bin with that item be overfull? -/
def badB (LI LQ : List (List Value)) (t : ByteArray) (e : List Value) : Bool := standsQ LQ (codeOf e) t && fullB LI LQ (bnOf e)
def resE (LI LB LQ : List (List Value)) (t : ByteArray) (v u : Int) : Nat :=
 if (atItem LI t).isSome = false then 12
 else if (decide (v < 0) || decide (1000000 < v) || decide (u < 0) || decide (1000000 < u)) = true then 5
 else if (LB.any (badB (resL LI t v u) LQ t)) = true then 26 else 0
def limL (LB : List (List Value)) (s : ByteArray) (v u : Int) : List (List Value) := putG ordBin LB (bnSize (bnOf (gotBin LB s)) v u).cells
def limE (LI LB LQ : List (List Value)) (s : ByteArray) (v u : Int) : Nat :=
 if (atBin LB s).isSome = false then 12
 else if (decide (v < 0) || decide (1000000000000 < v) || decide (u < 0) || decide (1000000000000 < u)) = true then 5
 else if fullB LI LQ (bnSize (bnOf (gotBin LB s)) v u) = true then 26 else 0
end Go.Proofs.YtnkhnbpopdmkhaaGreat

namespace Go.Proofs.YtnkhnbpopdmkhaaGreat
set_option linter.unusedVariables false
namespace Pl

/-- The first least of those that P takes, among the first k. -/
def best (less : Nat → Nat → Bool) (P : Nat → Bool) : Nat → Option Nat
 | 0 => none
 | k + 1 => if P k = true then (match best less P k with
  | none => some k
  | some j => if less k j = true then some k else some j) else best less P k
theorem best_lt {less : Nat → Nat → Bool} {P : Nat → Bool} : ∀ {k i : Nat}, best less P k = some i → i < k ∧ P i = true
 | 0, i, h => by simp [best] at h
 | k + 1, i, h => by
  unfold best at h
  by_cases hp : P k = true
  · rw [if_pos hp] at h
    cases hb : best less P k with
    | none => rw [hb] at h; simp only [Option.some.injEq] at h; subst h; exact ⟨by omega, hp⟩
    | some j =>
     rw [hb] at h
     simp only [] at h
     by_cases hl : less k j = true
     · rw [if_pos hl] at h; simp only [Option.some.injEq] at h; subst h; exact ⟨by omega, hp⟩
     · rw [if_neg hl] at h; simp only [Option.some.injEq] at h; subst h
       have := best_lt hb
       exact ⟨by omega, this.2⟩
  · rw [if_neg hp] at h
    have := best_lt h
    exact ⟨by omega, this.2⟩
theorem best_none {less : Nat → Nat → Bool} {P : Nat → Bool} : ∀ {k : Nat}, best less P k = none ↔ ∀ i, i < k → P i = false
 | 0 => ⟨fun _ i h => by omega, fun _ => rfl⟩
 | k + 1 => by
  constructor
  · intro h i hi
    unfold best at h
    by_cases hp : P k = true
    · rw [if_pos hp] at h
      cases hb : best less P k with
      | none => rw [hb] at h; simp at h
      | some j => rw [hb] at h; simp only [] at h; split at h <;> simp at h
    · rw [if_neg hp] at h
      by_cases hik : i = k
      · subst hik; simpa using hp
      · exact best_none.1 h i (by omega)
  · intro h
    unfold best
    rw [if_neg (by rw [h k (by omega)]; simp)]
    exact best_none.2 (fun i hi => h i (by omega))
theorem best_of {less : Nat → Nat → Bool} {P : Nat → Bool} {i : Nat} (hp : P i = true) (hb : ∀ j, j < i → P j = true → less i j = true) : ∀ {k : Nat}, i < k → (∀ j, j < k → i < j → P j = true → less j i = false) → best less P k = some i
 | 0, h, _ => by omega
 | k + 1, h, ha => by
  unfold best
  by_cases hik : i = k
  · subst hik
    rw [if_pos hp]
    cases hq : best less P i with
    | none => rfl
    | some j =>
     have := best_lt hq
     simp only []
     rw [if_pos (hb j this.1 this.2)]
  · have ih := best_of hp hb (k := k) (by omega) (fun j hj hij hpj => ha j (by omega) hij hpj)
    by_cases hpk : P k = true
    · rw [if_pos hpk, ih]
      simp only []
      rw [if_neg (by rw [ha k (by omega) (by omega) hpk]; simp)]
    · rw [if_neg hpk]; exact ih
theorem best_congr {less less' : Nat → Nat → Bool} {P P' : Nat → Bool} : ∀ {k : Nat}, (∀ i, i < k → P i = P' i) → (∀ i j, i < k → j < k → less i j = less' i j) → best less P k = best less' P' k
 | 0, _, _ => rfl
 | k + 1, hP, hl => by
  have ih := best_congr (less := less) (less' := less') (P := P) (P' := P') (k := k) (fun i hi => hP i (by omega)) (fun i j hi hj => hl i j (by omega) (by omega))
  unfold best
  rw [hP k (by omega), ih]
  cases hb : best less' P' k with
  | none => rfl
  | some j =>
   have := (best_lt hb).1
   simp only []
   rw [hl k j (by omega) (by omega)]
theorem best_no {less : Nat → Nat → Bool} {P : Nat → Bool} {k : Nat} (h : P k = false) : best less P (k + 1) = best less P k := by
 show (if P k = true then _ else _) = _
 rw [if_neg (by rw [h]; simp)]
theorem best_first {less : Nat → Nat → Bool} {P : Nat → Bool} {k : Nat} (h : P k = true) (hb : best less P k = none) : best less P (k + 1) = some k := by
 show (if P k = true then _ else _) = _
 rw [if_pos h, hb]
theorem best_less {less : Nat → Nat → Bool} {P : Nat → Bool} {k j : Nat} (h : P k = true) (hb : best less P k = some j) (hl : less k j = true) : best less P (k + 1) = some k := by
 show (if P k = true then _ else _) = _
 rw [if_pos h, hb]
 simp only []
 rw [if_pos hl]
theorem best_keep {less : Nat → Nat → Bool} {P : Nat → Bool} {k j : Nat} (h : P k = true) (hb : best less P k = some j) (hl : less k j = false) : best less P (k + 1) = some j := by
 show (if P k = true then _ else _) = _
 rw [if_pos h, hb]
 simp only []
 rw [if_neg (by rw [hl]; simp)]
/-- A place, or -1. -/
def atI : Option Nat → Int
 | none => -1
 | some j => (j : Int)
/-- An order by which things may be alike. -/
structure Weak {α : Type} (less : α → α → Bool) : Prop where
 irr : ∀ a, less a a = false
 tr : ∀ a b c, less a b = true → less b c = true → less a c = true
 nt : ∀ a b c, less a c = true → less a b = true ∨ less b c = true
theorem Weak.asymm {α : Type} {less : α → α → Bool} (W : Weak less) {a b : α} (h : less a b = true) : less b a = false := by
 cases hq : less b a with
 | false => rfl
 | true => have := W.tr a b a h hq; rw [W.irr a] at this; cases this
theorem best_min {less : Nat → Nat → Bool} {P : Nat → Bool} (W : Weak less) : ∀ {k i : Nat}, best less P k = some i → (∀ j, j < k → P j = true → less j i = false) ∧ ∀ j, j < i → P j = true → less i j = true
 | 0, i, h => by simp [best] at h
 | k + 1, i, h => by
  unfold best at h
  by_cases hp : P k = true
  · rw [if_pos hp] at h
    cases hb : best less P k with
    | none =>
     rw [hb] at h
     simp only [Option.some.injEq] at h
     subst h
     have hn := best_none.1 hb
     refine ⟨fun j hj hpj => ?_, fun j hj hpj => ?_⟩
     · by_cases hjk : j = k
       · subst hjk; exact W.irr _
       · rw [hn j (by omega)] at hpj; cases hpj
     · rw [hn j hj] at hpj; cases hpj
    | some q =>
     rw [hb] at h
     simp only [] at h
     have ih := best_min W hb
     have hq := best_lt hb
     by_cases hl : less k q = true
     · rw [if_pos hl] at h
       simp only [Option.some.injEq] at h
       subst h
       have key : ∀ j, j < k → P j = true → less k j = true := fun j hj hpj => by
        rcases W.nt k j q hl with h1 | h1
        · exact h1
        · rw [ih.1 j hj hpj] at h1; cases h1
       refine ⟨fun j hj hpj => ?_, key⟩
       by_cases hjk : j = k
       · subst hjk; exact W.irr _
       · exact W.asymm (key j (by omega) hpj)
     · rw [if_neg hl] at h
       simp only [Option.some.injEq] at h
       subst h
       refine ⟨fun j hj hpj => ?_, ih.2⟩
       by_cases hjk : j = k
       · subst hjk; simpa using hl
       · exact ih.1 j (by omega) hpj
  · rw [if_neg hp] at h
    have ih := best_min W h
    refine ⟨fun j hj hpj => ?_, ih.2⟩
    by_cases hjk : j = k
    · subst hjk; exact absurd hpj hp
    · exact ih.1 j (by omega) hpj
/-- The first least of more, if it is one of those that P takes, is the first least of these. -/
theorem best_sub {less : Nat → Nat → Bool} {P A : Nat → Bool} {k i : Nat} (W : Weak less) (h : best less A k = some i) (hp : P i = true) (hs : ∀ j, j < k → P j = true → A j = true) : best less P k = some i := by
 have hl := best_lt h
 have hm := best_min W h
 exact best_of hp (fun j hj hpj => hm.2 j hj (hs j (by omega) hpj)) hl.1 (fun j hj _ hpj => hm.1 j hj (hs j hj hpj))
/-- First by one thing, then by another. -/
def lex {α : Type} (l m : α → α → Bool) (a b : α) : Bool := l a b || (!l b a && m a b)
theorem Weak.lex {α : Type} {l m : α → α → Bool} (L : Weak l) (M : Weak m) : Weak (Pl.lex l m) where
 irr a := by simp [Pl.lex, L.irr, M.irr]
 tr a b c h1 h2 := by
  simp only [Pl.lex, Bool.or_eq_true, Bool.and_eq_true, Bool.not_eq_true'] at h1 h2 ⊢
  rcases h1 with h1 | ⟨h1, h1'⟩
  · rcases h2 with h2 | ⟨h2, h2'⟩
    · exact .inl (L.tr a b c h1 h2)
    · rcases L.nt a c b h1 with h3 | h3
      · exact .inl h3
      · rw [h2] at h3; cases h3
  · rcases h2 with h2 | ⟨h2, h2'⟩
    · rcases L.nt b a c h2 with h3 | h3
      · rw [h1] at h3; cases h3
      · exact .inl h3
    · refine .inr ⟨?_, M.tr a b c h1' h2'⟩
      cases hq : l c a with
      | false => rfl
      | true =>
       rcases L.nt c b a hq with h3 | h3
       · rw [h2] at h3; cases h3
       · rw [h1] at h3; cases h3
 nt a b c h := by
  simp only [Pl.lex, Bool.or_eq_true, Bool.and_eq_true, Bool.not_eq_true'] at h ⊢
  rcases h with h | ⟨h, h'⟩
  · rcases L.nt a b c h with h3 | h3
    · exact .inl (.inl h3)
    · exact .inr (.inl h3)
  · cases h1 : l a b with
    | true => exact .inl (.inl rfl)
    | false =>
     cases h2 : l b c with
     | true => exact .inr (.inl rfl)
     | false =>
      have h3 : l b a = false := by
       cases hq : l b a with
       | false => rfl
       | true =>
        rcases L.nt b c a hq with h4 | h4
        · rw [h2] at h4; cases h4
        · rw [h] at h4; cases h4
      have h5 : l c b = false := by
       cases hq : l c b with
       | false => rfl
       | true =>
        rcases L.nt c a b hq with h4 | h4
        · rw [h] at h4; cases h4
        · rw [h1] at h4; cases h4
      rcases M.nt a b c h' with h6 | h6
      · exact .inl (.inr ⟨h3, h6⟩)
      · exact .inr (.inr ⟨h5, h6⟩)
theorem Weak.int {α : Type} (f : α → Int) : Weak (fun a b : α => decide (f a < f b)) where
 irr a := by simp
 tr a b c h1 h2 := by simp only [decide_eq_true_eq] at *; omega
 nt a b c h := by simp only [decide_eq_true_eq] at *; omega
theorem Weak.flag {α : Type} (f : α → Bool) : Weak (fun a b : α => !f a && f b) where
 irr a := by cases f a <;> rfl
 tr a b c h1 h2 := by revert h1 h2; cases f a <;> cases f b <;> cases f c <;> simp
 nt a b c h := by revert h; cases f a <;> cases f b <;> cases f c <;> simp
theorem Weak.text {α : Type} (f : α → ByteArray) : Weak (fun a b : α => lt (f a) (f b)) where
 irr a := lt_irrefl _
 tr a b c h1 h2 := lt_trans h1 h2
 nt a b c h := by
  rcases lt_tri (f a) (f b) with h1 | h1 | h1
  · exact .inl h1
  · rw [h1] at h; exact .inr h
  · exact .inr (lt_trans h1 h)
theorem Weak.on {α β : Type} {less : α → α → Bool} (W : Weak less) (f : β → α) : Weak (fun a b => less (f a) (f b)) :=
 ⟨fun a => W.irr _, fun a b c h1 h2 => W.tr _ _ _ h1 h2, fun a b c h => W.nt _ _ _ h⟩
end Pl
end Go.Proofs.YtnkhnbpopdmkhaaGreat

namespace Go.Proofs.YtnkhnbpopdmkhaaGreat
set_option linter.unusedVariables false
open Go.RowKit
open Pl (firstG findG putG It)

def siteZ : List Value → ByteArray
 | _ :: .string s :: _ => s
 | _ => ⟨#[]⟩
theorem zone_cells {x : List Value} (h : Fits kZone x) : x = [.string (codeOf x), .string (siteZ x)] := by
 match x, h with
 | [c0, c1], h =>
  obtain ⟨⟨a0, rfl⟩, ⟨a1, rfl⟩, _⟩ := h
  rfl
theorem zone_two {h : Hs} {L : Nat → List (List Value)} {w : World} (hh : HT h L w) (s : ByteArray) : ∃ a c, gotZone (L 2) s = [.string a, .string c] ∧ siteZ (gotZone (L 2) s) = c :=
 ⟨_, _, zone_cells (gotZone_fits (hh 2 (by decide)).2.2.1 s), rfl⟩
/-- Of which site a bin is. -/
def siteT (LZ LB : List (List Value)) (s : ByteArray) : ByteArray := if (atBin LB s).isSome = true then siteZ (gotZone LZ (bnOf (gotBin LB s)).zone) else ⟨#[]⟩
/-- Is a text empty? -/
def emp (s : ByteArray) : Bool := s.toList.isEmpty
/-- A rule. -/
structure Rl where
 item : ByteArray
 zone : ByteArray
 rank : Int
def Rl.cells (x : Rl) : List Value := [.string x.item, .string x.zone, .int .i64 x.rank]
def rlOf : List Value → Rl
 | [.string a, .string b, .int _ k] => ⟨a, b, k⟩
 | _ => ⟨⟨#[]⟩, ⟨#[]⟩, 0⟩
theorem rl_cells {x : List Value} (h : Fits kRule x) : x = (rlOf x).cells := by
 match x, h with
 | [c0, c1, c2], h =>
  obtain ⟨⟨a0, rfl⟩, ⟨a1, rfl⟩, ⟨a2, rfl⟩, _⟩ := h
  rfl
theorem Rl.fits (x : Rl) : Fits kRule x.cells := ⟨⟨_, rfl⟩, ⟨_, rfl⟩, ⟨_, rfl⟩, trivial⟩
/-- The order of the list of rules: by item, then by zone. -/
def ordRule (x y : List Value) : Int := if Pl.cmp (rlOf x).item (rlOf y).item = 0 then Pl.cmp (rlOf x).zone (rlOf y).zone else Pl.cmp (rlOf x).item (rlOf y).item
theorem cmp_eq_zero (a b : ByteArray) : Pl.cmp a b = 0 ↔ Pl.eqv a b = true := by
 have := Pl.cmp_zero a b
 constructor
 · intro h; rw [h] at this; exact this.symm
 · intro h; rw [h] at this; simpa using this
theorem ordRule_zero (x y : List Value) : (ordRule x y == 0) = (Pl.eqv (rlOf x).item (rlOf y).item && Pl.eqv (rlOf x).zone (rlOf y).zone) := by
 unfold ordRule
 by_cases h : Pl.cmp (rlOf x).item (rlOf y).item = 0
 · rw [if_pos h, (cmp_eq_zero _ _).1 h, Bool.true_and]; exact Pl.cmp_zero _ _
 · rw [if_neg h]
   have : Pl.eqv (rlOf x).item (rlOf y).item = false := by
    cases hq : Pl.eqv (rlOf x).item (rlOf y).item with
    | false => rfl
    | true => exact absurd ((cmp_eq_zero _ _).2 hq) h
   rw [this, Bool.false_and]
   simpa using h
/-- Is there a rule of that item and zone? -/
def hasRule (LR : List (List Value)) (x : Rl) : Bool := LR.any fun e => Pl.eqv (rlOf e).item x.item && Pl.eqv (rlOf e).zone x.zone
theorem hasRule_snoc (LR : List (List Value)) (x : Rl) (k : Nat) (hk : k < LR.length) : hasRule (LR.take (k + 1)) x = (hasRule (LR.take k) x || (Pl.eqv (rlOf LR[k]).item x.item && Pl.eqv (rlOf LR[k]).zone x.zone)) := by
 unfold hasRule
 rw [List.take_succ_eq_append_getElem hk, List.any_append]; simp
/-- What is wrong with a rule. -/
def addRE (LI LZ LR : List (List Value)) (x : Rl) : Nat :=
 if ((!emp x.item && !(atItem LI x.item).isSome) || !(atZone LZ x.zone).isSome) = true then 12
 else if (decide (x.rank < 0) || decide (999 < x.rank)) = true then 5
 else if (!hasRule LR x && decide (32 ≤ LR.length)) = true then 14 else 0
/-- Is a rule asked ahead of another one? Does a shelf come ahead of another one? -/
def aheadR : Rl → Rl → Bool := Pl.lex (fun a b => decide (a.rank < b.rank)) (Pl.lex (fun a b => !emp a.item && emp b.item) (fun a b => Pl.lt a.zone b.zone))
def nearB : Bn → Bn → Bool := Pl.lex (fun a b => decide (a.aisle < b.aisle)) (Pl.lex (fun a b => decide (a.place < b.place)) (fun a b => Pl.lt a.code b.code))
theorem aheadR_weak : Pl.Weak aheadR := (Pl.Weak.int (fun a : Rl => a.rank)).lex ((Pl.Weak.flag (fun a : Rl => emp a.item)).lex (Pl.Weak.text (fun a : Rl => a.zone)))
theorem nearB_weak : Pl.Weak nearB := (Pl.Weak.int (fun a : Bn => a.aisle)).lex ((Pl.Weak.int (fun a : Bn => a.place)).lex (Pl.Weak.text (fun a : Bn => a.code)))
/-- A bin, a rule of a list by its number. -/
def bnA (LB : List (List Value)) (i : Nat) : Bn := bnOf (LB.getD i [])
def rlA (LR : List (List Value)) (i : Nat) : Rl := rlOf (LR.getD i [])
theorem bnA_at (LB : List (List Value)) (i : Nat) (h : i < LB.length) : bnA LB i = bnOf LB[i] := by unfold bnA; rw [List.getD_eq_getElem?_getD, List.getElem?_eq_getElem h]; rfl
theorem rlA_at (LR : List (List Value)) (i : Nat) (h : i < LR.length) : rlA LR i = rlOf LR[i] := by unfold rlA; rw [List.getD_eq_getElem?_getD, List.getElem?_eq_getElem h]; rfl
/-- Is a bin a shelf of that zone and site into which so many go? -/
def takesB (LI LZ LB LQ : List (List Value)) (zone site item : ByteArray) (n : Int) (b : Bn) : Bool :=
 b.kind == 1 && !b.frz && Pl.eqv b.zone zone && Pl.eqv (siteT LZ LB b.code) site && decide (roomE LI LB LQ b.code item n = 0)
def bestB (LI LZ LB LQ : List (List Value)) (zone site item : ByteArray) (n : Int) (k : Nat) : Option Nat :=
 Pl.best (fun i j => nearB (bnA LB i) (bnA LB j)) (fun i => takesB LI LZ LB LQ zone site item n (bnA LB i)) k
/-- The first shelf of a zone into which so many go. -/
def shelfT (LI LZ LB LQ : List (List Value)) (zone site item : ByteArray) (n : Int) : Option ByteArray := (bestB LI LZ LB LQ zone site item n LB.length).map fun i => (bnA LB i).code
/-- Does a rule speak of an item? -/
def speaks (item : ByteArray) (r : Rl) : Bool := emp r.item || Pl.eqv r.item item
def takesR (LI LZ LB LQ : List (List Value)) (site item : ByteArray) (n : Int) (r : Rl) : Bool := speaks item r && (shelfT LI LZ LB LQ r.zone site item n).isSome
def bestR (LI LZ LB LQ LR : List (List Value)) (site item : ByteArray) (n : Int) : Option Nat :=
 Pl.best (fun i j => aheadR (rlA LR i) (rlA LR j)) (fun i => takesR LI LZ LB LQ site item n (rlA LR i)) LR.length
/-- Where so many of an item are stowed at a site. -/
def sugT (LI LZ LB LQ LR : List (List Value)) (site item : ByteArray) (n : Int) : ByteArray :=
 if (atItem LI item).isSome = false then ⟨#[]⟩ else match bestR LI LZ LB LQ LR site item n with
  | none => ⟨#[]⟩
  | some i => (shelfT LI LZ LB LQ (rlA LR i).zone site item n).getD ⟨#[]⟩
def sugE (LI LZ LB LQ LR : List (List Value)) (site item : ByteArray) (n : Int) : Nat :=
 if (atItem LI item).isSome = false then 12 else if (bestR LI LZ LB LQ LR site item n).isNone = true then 30 else 0
/-- Things at their places. -/
theorem code_bn {e : List Value} (h : Fits kBin e) : codeOf e = (bnOf e).code := by
 rw [bn_cells h]; rfl
theorem quant_at {h : Hs} {L : Nat → List (List Value)} {w : World} (hh : HT h L w) {k : Nat} (hk : k < (L 4).length) : ∃ b off, h.A 4 = some ⟨b, off, none⟩ ∧ b < w.heap.size ∧ w.rangeAt b (off + k * 6) (qnOf (L 4)[k]).cells := by
 obtain ⟨b, off, hA, hb, hc⟩ := (hh 4 (by decide)).2.2.2.thing (hh 4 (by decide)).2.2.1 (by decide) hk
 have := hc k hk
 rw [show (kOf 4).length = 6 from rfl] at this
 exact ⟨b, off, hA, hb, by rw [← qn_cells ((hh 4 (by decide)).2.2.1 _ (List.getElem_mem hk))]; exact this⟩
theorem bin_at {h : Hs} {L : Nat → List (List Value)} {w : World} (hh : HT h L w) {k : Nat} (hk : k < (L 3).length) : ∃ b off, h.A 3 = some ⟨b, off, none⟩ ∧ b < w.heap.size ∧ w.rangeAt b (off + k * 8) (bnA (L 3) k).cells := by
 obtain ⟨b, off, hA, hb, hc⟩ := (hh 3 (by decide)).2.2.2.thing (hh 3 (by decide)).2.2.1 (by decide) hk
 have := hc k hk
 rw [show (kOf 3).length = 8 from rfl] at this
 exact ⟨b, off, hA, hb, by rw [bnA_at _ _ hk, ← bn_cells ((hh 3 (by decide)).2.2.1 _ (List.getElem_mem hk))]; exact this⟩
theorem rule_at {h : Hs} {L : Nat → List (List Value)} {w : World} (hh : HT h L w) {k : Nat} (hk : k < (L 5).length) : ∃ b off, h.A 5 = some ⟨b, off, none⟩ ∧ b < w.heap.size ∧ w.rangeAt b (off + k * 3) (rlA (L 5) k).cells := by
 obtain ⟨b, off, hA, hb, hc⟩ := (hh 5 (by decide)).2.2.2.thing (hh 5 (by decide)).2.2.1 (by decide) hk
 have := hc k hk
 rw [show (kOf 5).length = 3 from rfl] at this
 exact ⟨b, off, hA, hb, by rw [rlA_at _ _ hk, ← rl_cells ((hh 5 (by decide)).2.2.1 _ (List.getElem_mem hk))]; exact this⟩
/-- Which rules were asked: a list of truths with a count of those that are true. -/
theorem set_count {l : List Bool} {i : Nat} (h : i < l.length) (hf : l[i] = false) : (l.set i true).count true = l.count true + 1 := by
 rw [List.count_set h]
 simp [hf]
theorem some_false {l : List Bool} (h : l.count true < l.length) : ∃ i, ∃ hi : i < l.length, l[i] = false := by
 cases hq : l.all (fun b => b == true) with
 | true =>
  have : l.count true = l.length := List.count_eq_length.2 (fun b hb => by have := List.all_eq_true.1 hq b hb; simpa using this.symm)
  omega
 | false =>
  rw [List.all_eq_false] at hq
  obtain ⟨b, hb, hbf⟩ := hq
  obtain ⟨i, hi, rfl⟩ := List.mem_iff_getElem.1 hb
  exact ⟨i, hi, by simpa using hbf⟩
theorem all_true {l : List Bool} (h : l.count true = l.length) (i : Nat) (hi : i < l.length) : l[i] = true := by
 have := List.count_eq_length.1 h l[i] (List.getElem_mem hi)
 exact this.symm
/-- Was a rule not asked yet? -/
def freeB (A : List Bool) (i : Nat) : Bool := !A.getD i true
theorem freeB_at {A : List Bool} {i : Nat} (h : i < A.length) : freeB A i = !A[i] := by unfold freeB; rw [List.getD_eq_getElem?_getD, List.getElem?_eq_getElem h]; rfl
theorem sel_some {less : Nat → Nat → Bool} {A : List Bool} (h : A.count true < A.length) : ∃ j, Pl.best less (freeB A) A.length = some j := by
 cases hb : Pl.best less (freeB A) A.length with
 | some j => exact ⟨j, rfl⟩
 | none =>
  obtain ⟨i, hi, hf⟩ := some_false h
  have := Pl.best_none.1 hb i hi
  rw [freeB_at hi, hf] at this
  cases this
theorem sel_found {less : Nat → Nat → Bool} {A : List Bool} {P : Nat → Bool} {m j : Nat} (W : Pl.Weak less) (h : Pl.best less (freeB A) m = some j) (hp : P j = true) (hA : ∀ q, q < m → freeB A q = false → P q = false) : Pl.best less P m = some j :=
 Pl.best_sub W h hp (fun i hi hpi => by
  cases hq : freeB A i with
  | true => rfl
  | false => rw [hA i hi hq] at hpi; cases hpi)
theorem sel_none {less : Nat → Nat → Bool} {A : List Bool} {P : Nat → Bool} (h : A.count true = A.length) (hA : ∀ q, q < A.length → freeB A q = false → P q = false) : Pl.best less P A.length = none :=
 Pl.best_none.2 (fun i hi => hA i hi (by rw [freeB_at hi, all_true h i hi]; rfl))
theorem free_set {A : List Bool} {j : Nat} (hj : j < A.length) {P : Nat → Bool} (hp : P j = false) (hA : ∀ q, q < A.length → freeB A q = false → P q = false) : ∀ q, q < (A.set j true).length → freeB (A.set j true) q = false → P q = false := fun q hq hf => by
 by_cases hqj : q = j
 · subst hqj; exact hp
 · rw [List.length_set] at hq
   refine hA q hq ?_
   rw [freeB_at hq]
   rw [freeB_at (by rw [List.length_set]; exact hq), List.getElem_set_ne (by omega)] at hf
   exact hf
end Go.Proofs.YtnkhnbpopdmkhaaGreat

namespace Go.Proofs.YtnkhnbpopdmkhaaGreat
set_option linter.unusedVariables false
open Go.RowKit
open Pl (firstG findG putG)

/-- A line. -/
structure Ln where
 item : ByteArray
 asked : Int
 got : Int
 back : Int
 packed : Int
 out : Int
def Ln.cells (x : Ln) : List Value := [.string x.item, .int .i64 x.asked, .int .i64 x.got, .int .i64 x.back, .int .i64 x.packed, .int .i64 x.out]
def lnOf : List Value → Ln
 | [.string a, .int _ b, .int _ c, .int _ d, .int _ e, .int _ f] => ⟨a, b, c, d, e, f⟩
 | _ => ⟨⟨#[]⟩, 0, 0, 0, 0, 0⟩
theorem ln_cells {x : List Value} (h : Fits kLine x) : x = (lnOf x).cells := by
 match x, h with
 | [c0, c1, c2, c3, c4, c5], h =>
  obtain ⟨⟨a0, rfl⟩, ⟨a1, rfl⟩, ⟨a2, rfl⟩, ⟨a3, rfl⟩, ⟨a4, rfl⟩, ⟨a5, rfl⟩, _⟩ := h
  rfl
theorem fits_reps {ks : List CK} : ∀ {n : Nat} {l : List Value}, Fits (reps n ks) l → ∀ i, i < n → Fits ks ((l.drop (i * ks.length)).take ks.length)
 | n + 1, l, h, 0, _ => by
  have := (reps_split h).1
  rwa [Nat.zero_mul, List.drop_zero]
 | n + 1, l, h, i + 1, hi => by
  have := fits_reps (reps_split h).2 i (by omega)
  rw [List.drop_drop] at this
  rw [show (i + 1) * ks.length = ks.length + i * ks.length from by rw [Nat.add_mul]; omega]
  exact this
/-- The i-th of lines that stand cell by cell. -/
def lnAt (l : List Value) (i : Nat) : Ln := lnOf ((l.drop (i * 6)).take 6)
theorem lnAt_cells {l : List Value} (h : Fits kLine8 l) {i : Nat} (hi : i < 8) : (l.drop (i * 6)).take 6 = (lnAt l i).cells := by
 have := fits_reps (n := 8) h i hi
 exact ln_cells this
theorem line_at {w : World} {b o : Nat} {l : List Value} (h : Fits kLine8 l) (hr : w.rangeAt b o l) {i : Nat} (hi : i < 8) : w.rangeAt b (o + i * 6) (lnAt l i).cells := by
 rw [← lnAt_cells h hi]
 intro j v hv
 have hj : j < 6 := by
  have := (List.getElem?_eq_some_iff.1 hv).1
  rw [List.length_take] at this; omega
 rw [List.getElem?_take, if_pos hj, List.getElem?_drop] at hv
 have := hr _ _ hv
 rwa [show o + i * 6 + j = o + (i * 6 + j) from by omega]
theorem emp_eq {s : ByteArray} (h : emp s = true) : s = ⟨#[]⟩ := by
 have h1 : s.toList = [] := List.isEmpty_iff.1 h
 refine (Pl.eqv_iff _ _).1 ?_
 unfold Pl.eqv
 rw [h1, ByteArray.toList_eq]; rfl
/-- Is there no line? -/
def Ln.nil (x : Ln) : Bool := (x.asked == 0 && x.got == 0 && x.back == 0 && x.packed == 0 && x.out == 0)
/-- What is wrong with a line. -/
def lineE (LI : List (List Value)) (l : List Value) (i : Nat) : Nat :=
 let x := lnAt l i
 if emp x.item = true then (if x.nil = true then 0 else 5)
 else if (atItem LI x.item).isSome = false then 12
 else if ((List.range i).any fun k => Pl.eqv (lnAt l k).item x.item) = true then 11
 else if x.asked < 1 ∨ 1000000000 < x.asked then 10
 else if x.got ≠ 0 ∨ x.back ≠ 0 ∨ x.packed ≠ 0 ∨ x.out ≠ 0 then 5 else 0
theorem lineE_at (LI : List (List Value)) (l : List Value) (i : Nat) (x : Ln) (hx : lnAt l i = x) : lineE LI l i = if emp x.item = true then (if x.nil = true then 0 else 5)
 else if (atItem LI x.item).isSome = false then 12
 else if ((List.range i).any fun k => Pl.eqv (lnAt l k).item x.item) = true then 11
 else if x.asked < 1 ∨ 1000000000 < x.asked then 10
 else if x.got ≠ 0 ∨ x.back ≠ 0 ∨ x.packed ≠ 0 ∨ x.out ≠ 0 then 5 else 0 := by
 subst hx; rfl
/-- The first of several errors. -/
def firstE (f : Nat → Nat) : Nat → Nat
 | 0 => 0
 | n + 1 => if firstE f n ≠ 0 then firstE f n else f n
theorem firstE_le (f : Nat → Nat) {k n : Nat} (hk : k ≤ n) (h : firstE f k ≠ 0) : firstE f n = firstE f k := by
 induction n with
 | zero => rw [show k = 0 from by omega]
 | succ n ih =>
  by_cases e : k = n + 1
  · rw [e]
  · have := ih (by omega)
    show (if firstE f n ≠ 0 then firstE f n else f n) = _
    rw [if_pos (by rw [this]; exact h), this]
theorem firstE_hit (f : Nat → Nat) {k n : Nat} (hk : k < n) (h0 : firstE f k = 0) (h : f k ≠ 0) : firstE f n = f k := by
 have h1 : firstE f (k + 1) = f k := by
  show (if firstE f k ≠ 0 then firstE f k else f k) = _
  rw [if_neg (by rw [h0]; simp)]
 rw [firstE_le f (show k + 1 ≤ n by omega) (by rw [h1]; exact h), h1]
/-- How many lines there are. -/
def usedN (l : List Value) (n : Nat) : Nat := ((List.range n).filter fun i => !(emp (lnAt l i).item)).length
theorem usedN_succ (l : List Value) (n : Nat) : usedN l (n + 1) = if emp (lnAt l n).item = true then usedN l n else usedN l n + 1 := by
 unfold usedN
 rw [List.range_succ, List.filter_append, List.length_append]
 cases h : emp (lnAt l n).item with
 | true => simp [h]
 | false => simp [h]
theorem usedN_le (l : List Value) (n : Nat) : usedN l n ≤ n := by
 unfold usedN
 refine Nat.le_trans (List.length_filter_le _ _) ?_
 simp
/-- What is wrong with lines. -/
def linesE (LI : List (List Value)) (l : List Value) : Nat := if firstE (lineE LI l) 8 ≠ 0 then firstE (lineE LI l) 8 else if usedN l 8 = 0 then 12 else 0
theorem any_snoc (p : Nat → Bool) (k : Nat) : ((List.range (k + 1)).any p) = ((List.range k).any p || p k) := by
 rw [List.range_succ, List.any_append]; simp
/-- Is there a zone of a site? -/
def zonedB (LZ : List (List Value)) (s : ByteArray) : Bool := LZ.any fun z => Pl.eqv (siteZ z) s
theorem zonedB_snoc (LZ : List (List Value)) (s : ByteArray) (k : Nat) (hk : k < LZ.length) : zonedB (LZ.take (k + 1)) s = (zonedB (LZ.take k) s || Pl.eqv (siteZ LZ[k]) s) := by
 unfold zonedB
 rw [List.take_succ_eq_append_getElem hk, List.any_append]; simp
/-- A notice's site, lines, whether it is shut; the notice shut. -/
def nsite (x : List Value) : ByteArray := match (x[1]? : Option Value) with
 | some (Value.string s) => s
 | _ => ⟨#[]⟩
def nlines (x : List Value) : List Value := (x.drop 2).take 48
def nshut (x : List Value) : Bool := match (x[50]? : Option Value) with
 | some (Value.bool b) => b
 | _ => false
def shutN (x : List Value) : List Value := x.set 50 (.bool true)
theorem notice_parts {x : List Value} (h : Fits kNotice x) : x[0]? = some (.string (codeOf x)) ∧ x[1]? = some (.string (nsite x)) ∧ Fits kLine8 (nlines x) ∧ x[50]? = some (.bool (nshut x)) ∧ x.length = 51 := by
 have hl := h.length
 obtain ⟨c0, x, rfl⟩ : ∃ a y, x = a :: y := by cases x with | nil => cases hl | cons a y => exact ⟨a, y, rfl⟩
 obtain ⟨c1, x, rfl⟩ : ∃ a y, x = a :: y := by cases x with | nil => cases hl | cons a y => exact ⟨a, y, rfl⟩
 obtain ⟨⟨a0, rfl⟩, ⟨a1, rfl⟩, h⟩ := h
 have h48 : Fits (kLine8 ++ [.b]) x := h
 obtain ⟨h1, h2⟩ := Fits.split h48
 rw [show kLine8.length = 48 from rfl] at h1 h2
 have hx : x.length = 49 := by
  have : (x.length + 1) + 1 = 51 := hl
  omega
 obtain ⟨b, hb⟩ : ∃ b, x.drop 48 = [.bool b] := by
  match hd : x.drop 48, h2 with
  | [c], h2 => obtain ⟨⟨b, rfl⟩, _⟩ := h2; exact ⟨b, rfl⟩
 have h50 : x[48]? = some (.bool b) := by
  have : (x.drop 48)[0]? = some (.bool b) := by rw [hb]; rfl
  rwa [List.getElem?_drop] at this
 refine ⟨rfl, rfl, ?_, ?_, hl⟩
 · show Fits kLine8 ((List.drop 2 (_ :: _ :: x)).take 48); exact h1
 · show x[48]? = _
   rw [h50]
   show _ = some (Value.bool (match (x[48]? : Option Value) with | some (Value.bool b) => b | _ => false))
   rw [h50]
/-- What is wrong with a notice. -/
def annE (LI LZ LN : List (List Value)) (x : List Value) : Nat :=
 if Pl.nmE (codeOf x) ≠ 0 then Pl.nmE (codeOf x) else if zonedB LZ (nsite x) = false then 12 else if linesE LI (nlines x) ≠ 0 then linesE LI (nlines x)
 else if nshut x = true then 13 else if (atNotice LN (codeOf x)).isSome = true then 11 else if 32 ≤ LN.length then 14 else 0
/-- What is wrong where a notice is to be shut. -/
def shutE (LN : List (List Value)) (s : ByteArray) : Nat := if (atNotice LN s).isSome = false then 12 else if nshut (gotNotice LN s) = true then 13 else 0
def shutL (LN : List (List Value)) (s : ByteArray) : List (List Value) := putG ordNotice LN (shutN (gotNotice LN s))
end Go.Proofs.YtnkhnbpopdmkhaaGreat

namespace Go.Proofs.YtnkhnbpopdmkhaaGreat
set_option linter.unusedVariables false
open Go.RowKit

/-- Texts held against one another, the first ones first. -/
def cmps : List ByteArray → List ByteArray → Int
 | a :: l, b :: m => if Pl.lt a b = true then -1 else if Pl.lt b a = true then 1 else cmps l m
 | _, _ => 0
theorem cmps_one (a b : ByteArray) : cmps [a] [b] = Pl.cmp a b := by
 unfold cmps Pl.cmp
 by_cases h : Pl.lt a b = true
 · rw [if_pos h, if_pos h]
 · rw [if_neg h, if_neg h]
   by_cases k : Pl.eqv a b = true
   · have := (Pl.eqv_iff a b).1 k
     subst this
     rw [if_neg (by rw [Pl.lt_irrefl]; simp), if_pos k]; rfl
   · have : Pl.lt b a = true := by
      rcases Pl.lt_tri a b with h' | h' | h'
      · exact absurd h' h
      · exact absurd ((Pl.eqv_iff a b).2 h') k
      · exact h'
     rw [if_pos this, if_neg k]
theorem cmps_drop {l r : List ByteArray} {k : Nat} (h : cmps l r = cmps (l.drop k) (r.drop k)) (hl : k < l.length) (hr : k < r.length) : cmps l r = if Pl.lt l[k] r[k] = true then -1 else if Pl.lt r[k] l[k] = true then 1 else cmps (l.drop (k + 1)) (r.drop (k + 1)) := by
 rw [h, List.drop_eq_getElem_cons hl, List.drop_eq_getElem_cons hr]; rfl

theorem rd_str {w : World} {b : Nat} {s : ByteArray} {t : TypeId} (h : w.heap[b]? = some (.cells #[.string s] t (0, 0))) : Rd w w.heap.size (some ⟨b, 0, none⟩) (sc [s]) := fun _ => ⟨b, 0, rfl, lt_of_block h, fun j u hu => by
 have hj : j < 1 := by have := (List.getElem?_eq_some_iff.1 hu).1; simpa [sc] using this
 obtain rfl : j = 0 := by omega
 rw [cell_of_block h, ← hu]; rfl⟩
theorem cmps_two (a b c d : ByteArray) : cmps [a, b] [c, d] = if Pl.cmp a c = 0 then Pl.cmp b d else Pl.cmp a c := by
 have h1 : cmps [a, b] [c, d] = if Pl.lt a c = true then -1 else if Pl.lt c a = true then 1 else cmps [b] [d] := rfl
 have h2 : cmps [a] [c] = if Pl.lt a c = true then -1 else if Pl.lt c a = true then 1 else 0 := rfl
 rw [cmps_one] at h1 h2
 rw [h1, h2]
 by_cases x : Pl.lt a c = true
 · simp [x]
 · by_cases y : Pl.lt c a = true
   · simp [x, y]
   · simp [x, y]
theorem rd_str2 {w : World} {b : Nat} {s s2 : ByteArray} {t : TypeId} (h : w.heap[b]? = some (.cells #[.string s, .string s2] t (0, 0))) : Rd w w.heap.size (some ⟨b, 0, none⟩) (sc [s, s2]) := fun _ => ⟨b, 0, rfl, lt_of_block h, fun j u hu => by
 have hj : j < 2 := by have := (List.getElem?_eq_some_iff.1 hu).1; simpa [sc] using this
 rw [cell_of_block h, ← hu, Nat.zero_add]
 match j, hj with
 | 0, _ => rfl
 | 1, _ => rfl⟩
end Go.Proofs.YtnkhnbpopdmkhaaGreat

namespace Go.Proofs.YtnkhnbpopdmkhaaGreat
set_option linter.unusedVariables false
open Go.RowKit
open Pl (firstG findG putG dropG It)

/-- A quant's key. -/
structure Ky where
 bin : ByteArray
 item : ByteArray
 lot : ByteArray
 st : Int
def Ky.cells (k : Ky) : List Value := [.string k.bin, .string k.item, .string k.lot, .int .i64 k.st]
def kyOf : List Value → Ky
 | [.string a, .string b, .string c, .int _ s] => ⟨a, b, c, s⟩
 | _ => ⟨⟨#[]⟩, ⟨#[]⟩, ⟨#[]⟩, 0⟩
theorem ky_cells {x : List Value} (h : Fits kKey x) : x = (kyOf x).cells := by
 match x, h with
 | [c0, c1, c2, c3], h =>
  obtain ⟨⟨a0, rfl⟩, ⟨a1, rfl⟩, ⟨a2, rfl⟩, ⟨a3, rfl⟩, _⟩ := h
  rfl
theorem Ky.fits (k : Ky) : Fits kKey k.cells := ⟨⟨_, rfl⟩, ⟨_, rfl⟩, ⟨_, rfl⟩, ⟨_, rfl⟩, trivial⟩
def Qn.ky (q : Qn) : Ky := ⟨q.bin, q.item, q.lot, q.st⟩
theorem Ky.cells_inj {a b : Ky} (h : a.cells = b.cells) : a = b := by
 cases a; cases b
 unfold Ky.cells at h
 injection h with h1 h
 injection h with h2 h
 injection h with h3 h
 injection h with h4 _
 injection h1 with h1
 injection h2 with h2
 injection h3 with h3
 injection h4 with _ h4
 subst h1; subst h2; subst h3; subst h4; rfl
/-- Numbers held against one another. -/
def cmpI (a b : Int) : Int := if a < b then -1 else if b < a then 1 else 0
theorem cmpI_zero (a b : Int) : cmpI a b = 0 ↔ a = b := by
 unfold cmpI
 split
 · constructor <;> intro h <;> omega
 · split
   · constructor <;> intro h <;> omega
   · constructor <;> intro h <;> omega
/-- Keys held against one another. -/
def ordKy (a b : Ky) : Int := if cmps [a.bin, a.item, a.lot] [b.bin, b.item, b.lot] = 0 then cmpI a.st b.st else cmps [a.bin, a.item, a.lot] [b.bin, b.item, b.lot]
theorem cmps_zero : ∀ (l r : List ByteArray), l.length = r.length → (cmps l r = 0 ↔ l = r)
 | [], [], _ => ⟨fun _ => rfl, fun _ => rfl⟩
 | a :: l, b :: r, h => by
  have hc : cmps (a :: l) (b :: r) = if Pl.lt a b = true then -1 else if Pl.lt b a = true then 1 else cmps l r := rfl
  rw [hc]
  by_cases h1 : Pl.lt a b = true
  · rw [if_pos h1]
    exact ⟨fun h => by omega, fun h => by injection h with h2 _; subst h2; rw [Pl.lt_irrefl] at h1; cases h1⟩
  · rw [if_neg h1]
    by_cases h2 : Pl.lt b a = true
    · rw [if_pos h2]
      exact ⟨fun h => by omega, fun h => by injection h with h3 _; subst h3; rw [Pl.lt_irrefl] at h2; cases h2⟩
    · rw [if_neg h2, cmps_zero l r (by simpa using h)]
      have hab : a = b := by
       rcases Pl.lt_tri a b with h' | h' | h'
       · exact absurd h' h1
       · exact h'
       · exact absurd h' h2
      subst hab
      exact ⟨fun h => by rw [h], fun h => by injection h⟩
theorem ordKy_zero (a b : Ky) : ordKy a b = 0 ↔ a = b := by
 unfold ordKy
 by_cases h : cmps [a.bin, a.item, a.lot] [b.bin, b.item, b.lot] = 0
 · rw [if_pos h, cmpI_zero]
   have he := (cmps_zero [a.bin, a.item, a.lot] [b.bin, b.item, b.lot] rfl).1 h
   cases a; cases b
   simp only [List.cons.injEq, and_true] at he
   obtain ⟨h1, h2, h3⟩ := he
   subst h1; subst h2; subst h3
   exact ⟨fun h => by simp only [] at h; subst h; rfl, fun h => by injection h⟩
 · rw [if_neg h]
   exact ⟨fun h' => absurd h' h, fun h' => by subst h'; exact (cmps_zero [a.bin, a.item, a.lot] [a.bin, a.item, a.lot] rfl).2 rfl⟩
def ordQuant (x y : List Value) : Int := ordKy (qnOf x).ky (qnOf y).ky
def isKy (k : Ky) (e : List Value) : Bool := Pl.eqv (qnOf e).bin k.bin && (Pl.eqv (qnOf e).item k.item && (Pl.eqv (qnOf e).lot k.lot && decide ((qnOf e).st = k.st)))
theorem isKy_iff {k : Ky} {e : List Value} : isKy k e = true ↔ (qnOf e).ky = k := by
 unfold isKy
 rw [Bool.and_eq_true, Bool.and_eq_true, Bool.and_eq_true, Pl.eqv_iff, Pl.eqv_iff, Pl.eqv_iff, decide_eq_true_iff]
 cases k
 unfold Qn.ky
 simp only [Ky.mk.injEq]
def zeroQuant : List Value := [.string ⟨#[]⟩, .string ⟨#[]⟩, .string ⟨#[]⟩, .int .i64 0, .int .i64 0, .int .i64 0]
theorem zeroQuant_fits : Fits kQuant zeroQuant := ⟨⟨_, rfl⟩, ⟨_, rfl⟩, ⟨_, rfl⟩, ⟨_, rfl⟩, ⟨_, rfl⟩, ⟨_, rfl⟩, trivial⟩
/-- The place of the first quant of a key; that quant. -/
def atQ (L : List (List Value)) (k : Ky) : Option Nat := firstG (isKy k) L
def gotQ (L : List (List Value)) (k : Ky) : List Value := match atQ L k with | some i => L.getD i zeroQuant | none => zeroQuant
theorem gotQ_fits {L : List (List Value)} (h : Things kQuant L) (k : Ky) : Fits kQuant (gotQ L k) := by
 unfold gotQ
 cases hf : atQ L k with
 | none => exact zeroQuant_fits
 | some i =>
  have hi : i < L.length := Pl.firstG_lt hf
  simp only [List.getD_eq_getElem?_getD, List.getElem?_eq_getElem hi, Option.getD_some]
  exact h _ (List.getElem_mem hi)
theorem findG_atQ (L : List (List Value)) (x : List Value) : findG ordQuant L x = atQ L (qnOf x).ky := by
 unfold findG atQ
 congr 1
 funext e
 have h1 : (ordQuant e x == 0) = true ↔ (qnOf e).ky = (qnOf x).ky := by rw [beq_iff_eq]; exact ordKy_zero _ _
 exact Bool.eq_iff_iff.2 (h1.trans isKy_iff.symm)
theorem quant_six {h : Hs} {L : Nat → List (List Value)} {w : World} (hh : HT h L w) (k : Ky) : ∃ x : Qn, gotQ (L 4) k = x.cells ∧ qnOf (gotQ (L 4) k) = x :=
 ⟨_, qn_cells (gotQ_fits (hh 4 (by decide)).2.2.1 k), rfl⟩
theorem gotQ_ky {L : List (List Value)} {k : Ky} (h : (atQ L k).isSome = true) : (qnOf (gotQ L k)).ky = k := by
 unfold gotQ
 cases hc : atQ L k with
 | none => rw [hc] at h; cases h
 | some i =>
  have hl := Pl.firstG_lt hc
  have ha := Pl.firstG_at hc hl
  simp only [List.getD_eq_getElem?_getD, List.getElem?_eq_getElem hl, Option.getD_some]
  exact isKy_iff.1 ha
/-- A quant put, or dropped, if it is of nothing. -/
def upQ (L : List (List Value)) (q : Qn) : List (List Value) := if q.qty = 0 then dropG ordQuant L q.cells else putG ordQuant L q.cells
def putE (L : List (List Value)) (k : Ky) (n : Int) : Nat :=
 if n < 1 ∨ 1000000000 < n then 10
 else if (atQ L k).isSome = false then (if 256 ≤ L.length then 16 else 0)
 else if 1000000000 - n < (qnOf (gotQ L k)).qty then 10 else 0
def putX (L : List (List Value)) (k : Ky) (n : Int) : Qn := if (atQ L k).isSome = false then ⟨k.bin, k.item, k.lot, k.st, n, 0⟩ else ⟨k.bin, k.item, k.lot, k.st, wrap64 ((qnOf (gotQ L k)).qty + n), (qnOf (gotQ L k)).held⟩
def putL (L : List (List Value)) (k : Ky) (n : Int) : List (List Value) := upQ L (putX L k n)
def takeE (L : List (List Value)) (k : Ky) (n : Int) : Nat :=
 if n < 1 ∨ 1000000000 < n then 10
 else if (atQ L k).isSome = false then 12
 else if (qnOf (gotQ L k)).qty < n then 27
 else if wrap64 ((qnOf (gotQ L k)).qty - (qnOf (gotQ L k)).held) < n then 28 else 0
def takeL (L : List (List Value)) (k : Ky) (n : Int) : List (List Value) := upQ L ⟨k.bin, k.item, k.lot, k.st, wrap64 ((qnOf (gotQ L k)).qty - n), (qnOf (gotQ L k)).held⟩
def holdE (L : List (List Value)) (k : Ky) (n : Int) : Nat :=
 if (atQ L k).isSome = false then 12
 else if n < -1000000000 ∨ 1000000000 < n then 10
 else if wrap64 ((qnOf (gotQ L k)).qty - (qnOf (gotQ L k)).held) < n ∨ wrap64 ((qnOf (gotQ L k)).held + n) < 0 then 28 else 0
def holdL (L : List (List Value)) (k : Ky) (n : Int) : List (List Value) := upQ L ⟨k.bin, k.item, k.lot, k.st, (qnOf (gotQ L k)).qty, wrap64 ((qnOf (gotQ L k)).held + n)⟩
def frozB (LB : List (List Value)) (s : ByteArray) : Bool := (atBin LB s).isSome && (bnOf (gotBin LB s)).frz
def moveE (LI LB L : List (List Value)) (k : Ky) (n : Int) (t : ByteArray) : Nat :=
 if Pl.eqv t k.bin = true then 1
 else if (atBin LB t).isSome = false then 12
 else if (frozB LB t || frozB LB k.bin) = true then 25
 else if takeE L k n ≠ 0 then takeE L k n
 else if roomE LI LB (takeL L k n) t k.item n ≠ 0 then roomE LI LB (takeL L k n) t k.item n
 else putE (takeL L k n) ⟨t, k.item, k.lot, k.st⟩ n
def moveL (L : List (List Value)) (k : Ky) (n : Int) (t : ByteArray) : List (List Value) := putL (takeL L k n) ⟨t, k.item, k.lot, k.st⟩ n
def statE (LB L : List (List Value)) (k : Ky) (n st : Int) : Nat :=
 if (st < 1 ∨ 3 < st) ∨ st = k.st then 31
 else if frozB LB k.bin = true then 25
 else if takeE L k n ≠ 0 then takeE L k n
 else putE (takeL L k n) ⟨k.bin, k.item, k.lot, st⟩ n
def statL (L : List (List Value)) (k : Ky) (n st : Int) : List (List Value) := putL (takeL L k n) ⟨k.bin, k.item, k.lot, st⟩ n
theorem dropG_mem {ord : List Value → List Value → Int} {l : List (List Value)} {x e : List Value} (h : e ∈ dropG ord l x) : e ∈ l := by
 unfold dropG at h
 split at h
 · rw [List.mem_append] at h
   exact h.elim List.mem_of_mem_take List.mem_of_mem_drop
 · exact h
theorem dropG_len (ord : List Value → List Value → Int) (l : List (List Value)) (x : List Value) : (dropG ord l x).length ≤ l.length := by
 unfold dropG
 split
 · rw [List.length_append, List.length_take, List.length_drop]; omega
 · exact Nat.le_refl _
theorem upQ_things {L : List (List Value)} (h : Things kQuant L) (q : Qn) : Things kQuant (upQ L q) := fun e he => by
 unfold upQ at he
 split at he
 · exact h e (dropG_mem he)
 · rcases Pl.putG_mem he with rfl | he
   · exact q.fits
   · exact h e he
theorem upQ_len (L : List (List Value)) (q : Qn) : (upQ L q).length ≤ L.length + 1 := by
 unfold upQ
 split
 · have := dropG_len ordQuant L q.cells; omega
 · rw [Pl.putG_len]; split <;> omega
end Go.Proofs.YtnkhnbpopdmkhaaGreat

namespace Go.Proofs.YtnkhnbpopdmkhaaGreat
set_option linter.unusedVariables false
open Go.RowKit
open Pl (firstG findG putG dropG It)

theorem atQ_set {L : List (List Value)} {k : Ky} {i : Nat} {x : List Value} (h : atQ L k = some i) (hx : (qnOf x).ky = k) : atQ (L.set i x) k = some i := by
 have hl := Pl.firstG_lt h
 refine Pl.firstG_some (by rw [List.length_set]; exact hl) (fun j hj hji => ?_) ?_
 · rw [List.getElem_set_ne (by omega)]
   have hj' : j < L.length := by rwa [List.length_set] at hj
   exact Pl.firstG_before h j hj' hji
 · rw [List.getElem_set_self]; exact isKy_iff.2 hx
theorem gotQ_set {L : List (List Value)} {k : Ky} {i : Nat} {x : List Value} (h : atQ L k = some i) (hx : (qnOf x).ky = k) : gotQ (L.set i x) k = x := by
 unfold gotQ
 rw [atQ_set h hx]
 have hl := Pl.firstG_lt h
 simp only [List.getD_eq_getElem?_getD]
 rw [List.getElem?_eq_getElem (by rw [List.length_set]; exact hl), List.getElem_set_self]; rfl
theorem gotQ_at {L : List (List Value)} {k : Ky} {i : Nat} (h : atQ L k = some i) : ∃ hi : i < L.length, gotQ L k = L[i] := by
 have hl := Pl.firstG_lt h
 refine ⟨hl, ?_⟩
 unfold gotQ
 rw [h]
 simp only [List.getD_eq_getElem?_getD, List.getElem?_eq_getElem hl]; rfl
theorem upQ_set {L : List (List Value)} {q : Qn} {i : Nat} (h : atQ L q.ky = some i) (hq : q.qty ≠ 0) : upQ L q = L.set i q.cells := by
 unfold upQ
 rw [if_neg hq]
 exact Pl.put_set ordQuant q.cells L i (by rw [findG_atQ]; exact h)
/-- A quant that was not there: between what is ahead and what is behind. -/
theorem upQ_new {L : List (List Value)} {q : Qn} (h : atQ L q.ky = none) (hq : q.qty ≠ 0) : ∃ A B, L = A ++ B ∧ upQ L q = A ++ [q.cells] ++ B ∧ ∀ j (hj : j < A.length), isKy q.ky A[j] = false := by
 have hall : ∀ e ∈ L, isKy q.ky e = false := fun e he => by
  obtain ⟨j, hj, rfl⟩ := List.mem_iff_getElem.1 he
  exact Pl.firstG_all h j hj
 unfold upQ
 rw [if_neg hq]
 unfold putG
 rw [show findG ordQuant L q.cells = none from by rw [findG_atQ]; exact h]
 simp only []
 cases ho : Pl.overG ordQuant L q.cells with
 | some i => exact ⟨L.take i, L.drop i, (List.take_append_drop i L).symm, rfl, fun j hj => hall _ (List.mem_of_mem_take (List.getElem_mem hj))⟩
 | none => exact ⟨L, [], by simp, by simp, fun j hj => hall _ (List.getElem_mem hj)⟩
theorem at_mid {A B : List (List Value)} {x : List Value} {k : Ky} (hx : (qnOf x).ky = k) (hA : ∀ j (hj : j < A.length), isKy k A[j] = false) : atQ (A ++ [x] ++ B) k = some A.length ∧ gotQ (A ++ [x] ++ B) k = x := by
 have h1 : atQ (A ++ [x] ++ B) k = some A.length := by
  refine Pl.firstG_some (by simp only [List.length_append, List.length_cons, List.length_nil]; omega) (fun j hj hjA => ?_) ?_
  · rw [List.getElem_append_left (by rw [List.length_append]; simp; omega), List.getElem_append_left hjA]; exact hA j hjA
  · rw [List.getElem_append_left (by rw [List.length_append]; simp), List.getElem_append_right (Nat.le_refl _)]
    simp only [Nat.sub_self, List.getElem_cons_zero]
    exact isKy_iff.2 hx
 refine ⟨h1, ?_⟩
 unfold gotQ
 rw [h1]
 simp only [List.getD_eq_getElem?_getD]
 rw [List.append_assoc, List.getElem?_append_right (Nat.le_refl _)]
 simp
/-- Each quant is of something, and no more of it is held than there is. -/
def PlainQ (L : List (List Value)) : Prop := ∀ e ∈ L, 0 ≤ (qnOf e).held ∧ (qnOf e).held ≤ (qnOf e).qty ∧ 1 ≤ (qnOf e).qty ∧ (qnOf e).qty ≤ 1000000000
theorem w64 {z : Int} (h1 : -9223372036854775808 ≤ z) (h2 : z ≤ 9223372036854775807) : wrap64 z = z := IntWalk.wrap64_in z ⟨by omega, by omega⟩
theorem Qn.back {q : Qn} {k : Ky} (h : q.ky = k) : (⟨k.bin, k.item, k.lot, k.st, q.qty, q.held⟩ : Qn) = q := by subst h; rfl
/-- What was put is taken off again. -/
theorem put_take {L : List (List Value)} {k : Ky} {n : Int} (hp : PlainQ L) (ht : Things kQuant L) (h : putE L k n = 0) : takeE (putL L k n) k n = 0 ∧ takeL (putL L k n) k n = L := by
 unfold putE at h
 by_cases h1 : n < 1 ∨ 1000000000 < n
 · rw [if_pos h1] at h; cases h
 · rw [if_neg h1] at h
   have hn1 : 1 ≤ n := by omega
   have hn2 : n ≤ 1000000000 := by omega
   cases hc : atQ L k with
   | none =>
    have hs : (atQ L k).isSome = false := by rw [hc]; rfl
    obtain ⟨A, B, hL, hU, hA⟩ := upQ_new (L := L) (q := ⟨k.bin, k.item, k.lot, k.st, n, 0⟩) hc (by show n ≠ 0; omega)
    have hPL : putL L k n = A ++ [(⟨k.bin, k.item, k.lot, k.st, n, 0⟩ : Qn).cells] ++ B := by unfold putL putX; rw [if_pos hs]; exact hU
    obtain ⟨m1, m2⟩ := at_mid (B := B) (x := (⟨k.bin, k.item, k.lot, k.st, n, 0⟩ : Qn).cells) (k := k) rfl hA
    rw [hPL]
    constructor
    · unfold takeE
      rw [if_neg h1, m1, m2, qnOf_cells, if_neg (by simp)]
      simp only []
      rw [if_neg (by omega), w64 (by omega) (by omega), if_neg (by omega)]
    · unfold takeL
      rw [m2, qnOf_cells]
      simp only []
      rw [w64 (by omega) (by omega)]
      unfold upQ
      rw [if_pos (by show n - n = 0; omega)]
      unfold dropG
      rw [findG_atQ]
      show (match atQ (A ++ [(⟨k.bin, k.item, k.lot, k.st, n, 0⟩ : Qn).cells] ++ B) k with | some i => _ | none => _) = L
      rw [m1, hL]
      simp only []
      rw [List.append_assoc, List.take_left, ← List.append_assoc, List.drop_append_of_le_length (by simp)]
      simp
   | some i =>
    have hs : ¬ (atQ L k).isSome = false := by rw [hc]; simp
    rw [if_neg hs] at h
    obtain ⟨hi, hg⟩ := gotQ_at hc
    have hky := gotQ_ky (L := L) (k := k) (by rw [hc]; rfl)
    obtain ⟨q, hq⟩ : ∃ q, qnOf (gotQ L k) = q := ⟨_, rfl⟩
    have hfit := gotQ_fits ht k
    have hcell : gotQ L k = q.cells := by rw [← hq]; exact qn_cells hfit
    have hpl := hp L[i] (List.getElem_mem hi)
    rw [← hg, hq] at hpl
    rw [hq] at h hky
    by_cases h2 : 1000000000 - n < q.qty
    · rw [if_pos h2] at h; cases h
    · have hPL : putL L k n = L.set i (⟨k.bin, k.item, k.lot, k.st, q.qty + n, q.held⟩ : Qn).cells := by
       unfold putL putX
       rw [if_neg hs, hq, w64 (by omega) (by omega)]
       exact upQ_set (q := ⟨k.bin, k.item, k.lot, k.st, q.qty + n, q.held⟩) hc (by show q.qty + n ≠ 0; omega)
      have hgs := gotQ_set (x := (⟨k.bin, k.item, k.lot, k.st, q.qty + n, q.held⟩ : Qn).cells) hc rfl
      have has := atQ_set (x := (⟨k.bin, k.item, k.lot, k.st, q.qty + n, q.held⟩ : Qn).cells) hc rfl
      rw [hPL]
      constructor
      · unfold takeE
        rw [if_neg h1, has, hgs, qnOf_cells, if_neg (by simp)]
        simp only []
        rw [if_neg (by omega), w64 (by omega) (by omega), if_neg (by omega)]
      · unfold takeL
        rw [hgs, qnOf_cells]
        simp only []
        rw [w64 (by omega) (by omega), show q.qty + n - n = q.qty from by omega, Qn.back hky]
        have : upQ (L.set i (⟨k.bin, k.item, k.lot, k.st, q.qty + n, q.held⟩ : Qn).cells) q = _ := upQ_set (q := q) (by rw [hky]; exact has) (by omega)
        rw [this, List.set_set, ← hcell, hg]
        exact List.set_getElem_self hi
/-- What was held more is held less again. -/
theorem hold_back {L : List (List Value)} {k : Ky} {n : Int} (hp : PlainQ L) (ht : Things kQuant L) (h : holdE L k n = 0) : holdE (holdL L k n) k (-n) = 0 ∧ holdL (holdL L k n) k (-n) = L := by
 unfold holdE at h
 cases hc : atQ L k with
 | none => rw [hc] at h; cases h
 | some i =>
  have hs : ¬ (atQ L k).isSome = false := by rw [hc]; simp
  rw [if_neg hs] at h
  obtain ⟨hi, hg⟩ := gotQ_at hc
  have hky := gotQ_ky (L := L) (k := k) (by rw [hc]; rfl)
  obtain ⟨q, hq⟩ : ∃ q, qnOf (gotQ L k) = q := ⟨_, rfl⟩
  have hfit := gotQ_fits ht k
  have hcell : gotQ L k = q.cells := by rw [← hq]; exact qn_cells hfit
  have hpl := hp L[i] (List.getElem_mem hi)
  rw [← hg, hq] at hpl
  rw [hq] at h hky
  by_cases h1 : n < -1000000000 ∨ 1000000000 < n
  · rw [if_pos h1] at h; cases h
  · rw [if_neg h1] at h
    rw [w64 (z := q.qty - q.held) (by omega) (by omega), w64 (z := q.held + n) (by omega) (by omega)] at h
    by_cases h2 : q.qty - q.held < n ∨ q.held + n < 0
    · rw [if_pos h2] at h; cases h
    · have hPL : holdL L k n = L.set i (⟨k.bin, k.item, k.lot, k.st, q.qty, q.held + n⟩ : Qn).cells := by
       unfold holdL
       rw [hq, w64 (by omega) (by omega)]
       exact upQ_set (q := ⟨k.bin, k.item, k.lot, k.st, q.qty, q.held + n⟩) hc (by show q.qty ≠ 0; omega)
      have hgs := gotQ_set (x := (⟨k.bin, k.item, k.lot, k.st, q.qty, q.held + n⟩ : Qn).cells) hc rfl
      have has := atQ_set (x := (⟨k.bin, k.item, k.lot, k.st, q.qty, q.held + n⟩ : Qn).cells) hc rfl
      rw [hPL]
      constructor
      · unfold holdE
        rw [has, hgs, qnOf_cells, if_neg (by simp)]
        simp only []
        rw [if_neg (by omega), w64 (by omega) (by omega), w64 (by omega) (by omega), if_neg (by omega)]
      · show upQ _ ⟨k.bin, k.item, k.lot, k.st, (qnOf (gotQ _ k)).qty, wrap64 ((qnOf (gotQ _ k)).held + -n)⟩ = L
        rw [hgs, qnOf_cells]
        simp only []
        rw [w64 (by omega) (by omega), show q.held + n + -n = q.held from by omega, Qn.back hky]
        have : upQ (L.set i (⟨k.bin, k.item, k.lot, k.st, q.qty, q.held + n⟩ : Qn).cells) q = _ := upQ_set (q := q) (by rw [hky]; exact has) (by omega)
        rw [this, List.set_set, ← hcell, hg]
        exact List.set_getElem_self hi
end Go.Proofs.YtnkhnbpopdmkhaaGreat

namespace Go.Proofs.YtnkhnbpopdmkhaaGreat
set_option linter.unusedVariables false
open Go.RowKit
open Pl (firstG findG putG It)

/-- May something stand at a dock of a site? -/
def dockE (LZ LB : List (List Value)) (d s : ByteArray) : Nat :=
 if (atBin LB d).isSome = false then 12 else if (bnOf (gotBin LB d)).kind ≠ 2 then 23 else if Pl.eqv (siteT LZ LB d) s = false then 24 else if (bnOf (gotBin LB d)).frz = true then 25 else 0
/-- Is the k-th line in use for an item? -/
def forB (l : List Value) (s : ByteArray) (k : Nat) : Bool := !(emp (lnAt l k).item) && Pl.eqv (lnAt l k).item s
/-- The first of the last d of eight places that passes, or -1. -/
def downI (p : Nat → Bool) : Nat → Int
 | 0 => -1
 | d + 1 => if p (7 - d) = true then ((7 - d : Nat) : Int) else downI p d
theorem downI_cases (p : Nat → Bool) : ∀ d, d ≤ 8 → downI p d = -1 ∨ ∃ k : Nat, k < 8 ∧ 8 - d ≤ k ∧ downI p d = (k : Int) ∧ p k = true
 | 0, _ => .inl rfl
 | d + 1, h => by
  unfold downI
  by_cases hp : p (7 - d) = true
  · rw [if_pos hp]; exact .inr ⟨7 - d, by omega, by omega, rfl, hp⟩
  · rw [if_neg hp]
    rcases downI_cases p d (by omega) with h1 | ⟨k, h1, h2, h3, h4⟩
    · exact .inl h1
    · exact .inr ⟨k, h1, by omega, h3, h4⟩
theorem downI_first (p : Nat → Bool) : ∀ d, d ≤ 8 → ∀ k : Nat, downI p d = (k : Int) → ∀ j, 8 - d ≤ j → j < k → p j = false
 | 0, _, k, h, _, _, _ => by simp [downI] at h
 | d + 1, hd, k, h, j, hj, hk => by
  unfold downI at h
  by_cases hp : p (7 - d) = true
  · rw [if_pos hp] at h
    have : 7 - d = k := by exact_mod_cast h
    omega
  · rw [if_neg hp] at h
    by_cases e : j = 7 - d
    · subst e; simpa using hp
    · exact downI_first p d (by omega) k h j (by omega) hk
/-- The place of the line of an item. -/
def lineI (l : List Value) (s : ByteArray) : Int := downI (forB l s) 8
/-- What comes in. -/
structure Cm where
 notice : ByteArray
 item : ByteArray
 unit : ByteArray
 n : Int
 lot : ByteArray
 dock : ByteArray
def Cm.cells (x : Cm) : List Value := [.string x.notice, .string x.item, .string x.unit, .int .i64 x.n, .string x.lot, .string x.dock]
/-- How much that is; where it will stand; the notice, the total behind it. -/
def recQ (L : Nat → List (List Value)) (x : Cm) : Int := Pl.baseU (itOf (gotItem (L 0) x.item)) x.unit x.n
def recK (L : Nat → List (List Value)) (x : Cm) : Ky := ⟨x.dock, x.item, x.lot, if (itOf (gotItem (L 0) x.item)).chk = true then 2 else 1⟩
def addN (X : List Value) (k : Nat) (q : Int) : List Value := X.set (2 + k * 6 + 2) (.int .i64 (wrap64 ((lnAt (nlines X) k).got + q)))
/-- What is wrong with what comes in, up to the room at the dock. -/
def recB (L : Nat → List (List Value)) (x : Cm) (X : List Value) (k : Nat) : Nat :=
 if Pl.baseE (itOf (gotItem (L 0) x.item)) x.unit x.n ≠ 0 then Pl.baseE (itOf (gotItem (L 0) x.item)) x.unit x.n
 else if fitE (L 0) (L 1) (L 4) x.item x.lot (recQ L x) ≠ 0 then fitE (L 0) (L 1) (L 4) x.item x.lot (recQ L x)
 else if wrap64 ((lnAt (nlines X) k).asked - (lnAt (nlines X) k).got) < recQ L x then 29
 else if dockE (L 2) (L 3) x.dock (nsite X) ≠ 0 then dockE (L 2) (L 3) x.dock (nsite X)
 else roomE (L 0) (L 3) (L 4) x.dock x.item (recQ L x)
/-- What is wrong with what comes in. -/
def recE (L : Nat → List (List Value)) (x : Cm) : Nat :=
 if (atNotice (L 6) x.notice).isSome = false then 12
 else if nshut (gotNotice (L 6) x.notice) = true then 13
 else if lineI (nlines (gotNotice (L 6) x.notice)) x.item < 0 ∨ (atItem (L 0) x.item).isSome = false then 12
 else if recB L x (gotNotice (L 6) x.notice) (lineI (nlines (gotNotice (L 6) x.notice)) x.item).toNat ≠ 0 then recB L x (gotNotice (L 6) x.notice) (lineI (nlines (gotNotice (L 6) x.notice)) x.item).toNat
 else putE (L 4) (recK L x) (recQ L x)
/-- The notice, the total behind what came in. -/
def recN (L : Nat → List (List Value)) (x : Cm) : List Value := addN (gotNotice (L 6) x.notice) (lineI (nlines (gotNotice (L 6) x.notice)) x.item).toNat (recQ L x)
def recT (L : Nat → List (List Value)) (x : Cm) : List Value := ((tlOf (gotT (L 13) x.item x.lot)).add (recQ L x)).cells
/-- The lists behind what came in. -/
def recM (L : Nat → List (List Value)) (x : Cm) : Nat → List (List Value) := fun j => if j = 4 then putL (L 4) (recK L x) (recQ L x) else if j = 6 then putG ordNotice (L 6) (recN L x) else if j = 13 then putG ordL (L 13) (recT L x) else L j
/-- What is wrong with what is to be stowed; where it goes; the quants behind it. -/
def stowT (L : Nat → List (List Value)) (k : Ky) (n : Int) : ByteArray := sugT (L 0) (L 2) (L 3) (L 4) (L 5) (siteT (L 2) (L 3) k.bin) k.item n
def stowE (L : Nat → List (List Value)) (k : Ky) (n : Int) : Nat :=
 if (atBin (L 3) k.bin).isSome = false then 12
 else if (bnOf (gotBin (L 3) k.bin)).kind ≠ 2 then 23
 else if sugE (L 0) (L 2) (L 3) (L 4) (L 5) (siteT (L 2) (L 3) k.bin) k.item n ≠ 0 then sugE (L 0) (L 2) (L 3) (L 4) (L 5) (siteT (L 2) (L 3) k.bin) k.item n
 else moveE (L 0) (L 3) (L 4) k n (stowT L k n)
def stowL (L : Nat → List (List Value)) (k : Ky) (n : Int) : List (List Value) := moveL (L 4) k n (stowT L k n)
end Go.Proofs.YtnkhnbpopdmkhaaGreat

namespace Go.Proofs.YtnkhnbpopdmkhaaGreat
set_option linter.unusedVariables false
open Go.RowKit
/-- The first number that is not 0. -/
def firstNZ : List Int → Int
 | [] => 0
 | z :: l => if z = 0 then firstNZ l else z
theorem or_any (A : Option Addr) (n c : Nat) (l : List Int) (w : World) (hn : n = l.length) (hn6 : n ≤ 1000) (hr : Rd w w.heap.size A (l.map (Value.int .i64))) :
 Calls Tryz.prog 43 #[.slice A n c] w fun e w' => e = .returned (.int .i64 (firstNZ l)) ∧ w' = w := by
 obtain ⟨r, hr0⟩ : ∃ r, firstNZ l = r := ⟨_, rfl⟩
 rw [hr0]
 have HR0 := Lib.hid hr0
 have HN := Lib.hid hn
 have HR := Lib.hid hr
 clear hr0 hr hn
 go_enter Tryz.func43, Tryz.ntmps43
 go_wp2_with fail
 go_loopw [8] (fun kv wr => ∃ k : Nat, k ≤ n ∧ kv = .int .i64 (k : Int) ∧ Hid (firstNZ (l.drop k) = r) ∧ Hid (wr = w)) (fun kv _ => n - (intOf kv).toNat)
 case atStart => exact ⟨0, by omega, rfl, Lib.hid HR0.out, Lib.hid (by first | rfl | trivial)⟩
 case round =>
  obtain ⟨k, hk, rfl, hd, hw⟩ := hrel
  obtain rfl := hw.out
  by_cases hlt : k < n
  · have hkl : k < l.length := by rw [← HN.out]; exact hlt
    obtain ⟨b, off, rfl, hb, hc⟩ := HR.out (by rw [List.length_map]; omega)
    have hs : firstNZ (l.drop k) = if l[k] = 0 then firstNZ (l.drop (k + 1)) else l[k] := by rw [List.drop_eq_getElem_cons hkl]; rfl
    have c0 : wr.cell? ⟨b, off + k, none⟩ = some (.int .i64 l[k]) := hc k _ (by rw [List.getElem?_map, List.getElem?_eq_getElem hkl]; rfl)
    rw [hd.out] at hs
    obtain ⟨z, hz⟩ : ∃ z, l[k] = z := ⟨_, rfl⟩
    rw [hz] at hs c0
    have HS := Lib.hid hs
    have h1 : (0 : Int) ≤ (k : Int) := by omega
    have h2 : (k : Int) < (n : Int) := by omega
    clear hs hz hc hkl
    by_cases hz0 : z = 0
    · have HE : Hid (firstNZ (l.drop (k + 1)) = r) := Lib.hid (by rw [HS.out, if_pos hz0])
      subst hz0
      go_wp2_with fail
      go_roundw
      case rel => exact ⟨k + 1, by omega, by go_num, HE, Lib.hid (by first | rfl | trivial)⟩
      case measure => simp [intOf]; omega
    · have HE : Hid (r = z) := Lib.hid (by rw [HS.out, if_neg hz0])
      have hz1 : (z != 0) = true := by simpa using hz0
      clear hz0
      go_wp2_with fail
      go_ret
      exact ⟨by rw [HE.out]; rfl, rfl⟩
  · have HE : Hid (r = 0) := Lib.hid (by rw [← hd.out, List.drop_eq_nil_of_le (by rw [← HN.out]; omega)]; rfl)
    go_wp2_with fail
    go_ret
    exact ⟨by rw [HE.out]; rfl, rfl⟩
theorem same_below {P : Program} {f : FuncId} {args : Array Value} {w : World} {e0 : Ending} (h : Calls P f args w fun e w' => e = e0 ∧ w' = w) : Calls P f args w fun e w' => e = e0 ∧ Below w.heap.size w w' := h.mono (fun e w' h => ⟨h.1, by rw [h.2]; exact Below.refl _ _⟩)
theorem orI_neg (a : Int) (l : List Int) (h : a = -1 ∨ a = 0 ∨ a = 1) : decide (firstNZ (a :: l) < 0) = (decide (a < 0) || (!decide (0 < a) && decide (firstNZ l < 0))) := by
 show decide ((if a = 0 then firstNZ l else a) < 0) = _
 rcases h with rfl | rfl | rfl <;> simp
theorem cmpI_three (a b : Int) : cmpI a b = -1 ∨ cmpI a b = 0 ∨ cmpI a b = 1 := by unfold cmpI; split <;> (try split) <;> simp
theorem cmpI_neg (a b : Int) : decide (cmpI a b < 0) = decide (a < b) := by unfold cmpI; split <;> (try split) <;> simp <;> omega
theorem cmpI_pos (a b : Int) : decide (0 < cmpI a b) = decide (b < a) := by unfold cmpI; split <;> (try split) <;> simp <;> omega
theorem cmp_neg (a b : ByteArray) : decide (Pl.cmp a b < 0) = Pl.lt a b := by
 unfold Pl.cmp
 cases Pl.lt a b with
 | true => rfl
 | false =>
  rw [if_neg (by simp)]
  split <;> rfl
theorem firstNZ_nil : firstNZ [] = 0 := rfl
end Go.Proofs.YtnkhnbpopdmkhaaGreat
