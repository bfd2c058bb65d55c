/-
 PLAIN: names; an item; whether it may be kept.
 OPENED: arguments that are an item, a row of items, a house.
 OPENED: arguments that are a notice, a quant's name, what came.
 WORDS: strings.Compare; a thing's code; two results. (By wip/tools/gen_one.py.)
 PLAIN: things of api.Item by their code. (By wip/tools/gen_one.py.) PLAIN: things of api.Zone by their code. (By wip/tools/gen_one.py.) PLAIN: things of api.Bin by their code. (By wip/tools/gen_one.py.) PLAIN: things of api.Notice by their code. (By wip/tools/gen_one.py.) (By wip/tools/merge.py.)
 PLAIN: the units of an item; so many of a unit in base units; base units as units.
 PLAIN: lots, quants; what fits; when a lot ends.
 PLAIN: totals. (By wip/tools/gen_tot.py.)
 PLAIN: a bin, a quant, by their fields.
 PLAIN: what stands in a bin; what fits; which bins are overfull; other measures.
 PLAIN: the first least of those that are taken; orders that are weak: by one thing, then by another.
 PLAIN: zones; rules; which is asked first; the shelves of one; where something is stowed.
 PLAIN: lines and notices.
 CONTRACT of the rows' Texts.
 PLAIN: quants by their key; what is put, taken, held, moved, given another status.
 PLAIN: what was put is taken off again; what was held more is held less again.
 PLAIN: what comes in, and what is stowed.
 CONTRACTS of cmp.Or and cmp.Compare. (By wip/tools/port14c.py.)
-/
import Derived.Test.YtlkmccmbpnbgbaaGreatGT
import Derived.Test.YtlkmccmbpnbgbaaGreatHO
import Derived.Lib.Bytealg
import Derived.Test.YtlkmccmbpnbgbaaGreatHHouse
import Derived.Deep.SlicePairs
import Derived.Lib.SmallJoins
import Derived.SizedLaws
import Derived.ChangeSame
import Derived.OpenShut
import Derived.Laws.Externs
import Derived.BigQuiet
import Derived.Deep.RegionHeld3
namespace Go.Proofs.YtlkmccmbpnbgbaaGreat.Pl
set_option linter.unusedVariables false

theorem take_snoc (s : ByteArray) (k : Nat) (h : k < s.size) : s.data.toList.take (k + 1) = s.data.toList.take k ++ [s[k]] := by
 rw [List.take_succ_eq_append_getElem (by simpa using h)]; rfl
theorem length_toList (s : ByteArray) : s.data.toList.length = s.size := by rw [Array.length_toList]; rfl
/-- May a byte stand in a name? -/
def good (c : UInt8) : Bool := decide (33 ≤ c.toNat) && decide (c.toNat ≤ 126)
/-- What Name answers. -/
def nameE (l : List UInt8) : Nat := if 12 < l.length then 4 else if l = [] then 3 else if l.all good then 0 else 3
def nmE (s : ByteArray) : Nat := nameE s.data.toList
theorem compare_cmp : ∀ (a b : List UInt8), Lib.compareBytes a b = if Op.bytesLess a b = true then -1 else if (a == b) = true then 0 else 1
 | [], [] => by decide
 | [], _ :: _ => by rw [Go.Proofs.bytesLess_eq]; simp [Lib.compareBytes]
 | _ :: _, [] => by rw [Go.Proofs.bytesLess_eq]; simp [Lib.compareBytes]
 | x :: a, y :: b => by
  have ih := compare_cmp a b
  rw [Go.Proofs.bytesLess_eq] at ih ⊢
  unfold Lib.compareBytes
  by_cases h1 : x < y
  · have : decide (x :: a < y :: b) = true := by simp [List.cons_lt_cons_iff, h1]
    rw [if_pos h1, if_pos this]
  · by_cases h2 : y < x
    · have h3 : ¬ x = y := fun e => by subst e; exact h1 h2
      have : ¬ decide (x :: a < y :: b) = true := by simp [List.cons_lt_cons_iff, h1, h3]
      rw [if_neg h1, if_pos h2, if_neg this]
      simp [h3]
    · have h3 : x = y := UInt8.le_antisymm (UInt8.not_lt.1 h2) (UInt8.not_lt.1 h1)
      subst h3
      rw [if_neg h1, if_neg h2, ih]
      simp
theorem compare_eq (a b : ByteArray) : Lib.compareBytes a.data.toList b.data.toList = cmp a b := by
 rw [compare_cmp, ← ByteArray.toList_eq, ← ByteArray.toList_eq]; rfl

/-- An item. -/
structure It where
 code : ByteArray
 nm : Nat → ByteArray
 fc : Nat → Int
 vol : Int
 wei : Int
 lots : Bool
 serial : Bool
 chk : Bool
def It.units (x : It) : List Value := [.string (x.nm 0), .int .i64 (x.fc 0), .string (x.nm 1), .int .i64 (x.fc 1), .string (x.nm 2), .int .i64 (x.fc 2), .string (x.nm 3), .int .i64 (x.fc 3)]
def It.cells (x : It) : List Value := [.string x.code, .string (x.nm 0), .int .i64 (x.fc 0), .string (x.nm 1), .int .i64 (x.fc 1), .string (x.nm 2), .int .i64 (x.fc 2), .string (x.nm 3), .int .i64 (x.fc 3), .int .i64 x.vol, .int .i64 x.wei, .bool x.lots, .bool x.serial, .bool x.chk]
def at4 {α : Type} (a b c d : α) : Nat → α
 | 0 => a
 | 1 => b
 | 2 => c
 | _ => d
theorem It.of {cs : List Value} (h : Fits kItem cs) : ∃ x : It, cs = x.cells := by
 match cs, h with
 | [c0, c1, c2, c3, c4, c5, c6, c7, c8, c9, c10, c11, c12, c13], h =>
  obtain ⟨⟨a0, rfl⟩, ⟨a1, rfl⟩, ⟨a2, rfl⟩, ⟨a3, rfl⟩, ⟨a4, rfl⟩, ⟨a5, rfl⟩, ⟨a6, rfl⟩, ⟨a7, rfl⟩, ⟨a8, rfl⟩, ⟨a9, rfl⟩, ⟨a10, rfl⟩, ⟨a11, rfl⟩, ⟨a12, rfl⟩, ⟨a13, rfl⟩, _⟩ := h
  exact ⟨⟨a0, at4 a1 a3 a5 a7, at4 a2 a4 a6 a8, a9, a10, a11, a12, a13⟩, rfl⟩
theorem It.fits (x : It) : Fits kItem x.cells := ⟨⟨_, rfl⟩, ⟨_, rfl⟩, ⟨_, rfl⟩, ⟨_, rfl⟩, ⟨_, rfl⟩, ⟨_, rfl⟩, ⟨_, rfl⟩, ⟨_, rfl⟩, ⟨_, rfl⟩, ⟨_, rfl⟩, ⟨_, rfl⟩, ⟨_, rfl⟩, ⟨_, rfl⟩, ⟨_, rfl⟩, trivial⟩
/-- The word 'each'. -/
abbrev each : ByteArray := ⟨#[101, 97, 99, 104]⟩
end Go.Proofs.YtlkmccmbpnbgbaaGreat.Pl

namespace Go.Proofs.YtlkmccmbpnbgbaaGreat
open Go.ChangeShapes Go.WideShapes Go.Deep Go.RowKit Go.Joins
set_option linter.unusedVariables false
set_option maxRecDepth 100000

def at14 {α : Type} (a0 a1 a2 a3 a4 a5 a6 a7 a8 a9 a10 a11 a12 a13 z : α) : Nat → α
 | 0 => a0
 | 1 => a1
 | 2 => a2
 | 3 => a3
 | 4 => a4
 | 5 => a5
 | 6 => a6
 | 7 => a7
 | 8 => a8
 | 9 => a9
 | 10 => a10
 | 11 => a11
 | 12 => a12
 | 13 => a13
 | _ => z
section
variable {H : Type} {enc : TypeId × Value → H} {W : World}
/-- A house in memory, as a whole: its lists and its last task's number. -/
structure HIn (h : Hs) (L : Nat → List (List Value)) (W : World) : Prop where
 n : ∀ i, i < 14 → h.n i = (L i).length
 c : ∀ i, i < 14 → h.n i ≤ h.c i ∧ h.c i ≤ 9223372036854775807
 t : ∀ i, i < 14 → Things (kOf i) (L i)
 m : ∀ i, i < 14 → ∀ e ∈ L i, ∀ u ∈ e, Mild u
 r : ∀ i, i < 14 → Rd W W.heap.size (h.A i) (L i).flatten
 z : (Lit.int .i64 h.z).wf = true
/-- One list. -/
def LIn (ks : List CK) (W : World) (v : Value) (A : Option Addr) (n c : Nat) (L : List (List Value)) : Prop :=
 v = .slice A n c ∧ n = L.length ∧ n ≤ c ∧ c ≤ 9223372036854775807 ∧ Things ks L ∧ (∀ e ∈ L, ∀ u ∈ e, Mild u) ∧ Rd W W.heap.size A L.flatten
theorem field_in {fs : Array Field} {xs : List (DataW H × List MemPlace)} {n : Nat} {cs : List Value} (hx : xs.length = fs.size)
 (hg : ∀ (i : Nat) (f : Field), fs[i]? = some f → DataW.trod enc Tryz.prog W 0 (fun _ => true) true n f.type ((cs.drop f.offset).take (Tryz.prog.cellsOf f.type)) = xs[i]?)
 (i : Nat) (f : Field) (e : TypeId) (ks : List CK) (hfi : fs[i]? = some f) (ho : f.offset = i) (hc : Tryz.prog.cellsOf f.type = 1) (hu : Tryz.prog.underlying f.type = some (.slice e)) (op : OpT Tryz.prog e ks) (hk : 1 ≤ ks.length) (v : Value) (hi : cs[i]? = some v) :
 ∃ q : Option Addr × Nat × Nat × List (List Value), LIn ks W v q.1 q.2.1 q.2.2.1 q.2.2.2 := by
 have h1 := hg i f hfi
 have hlt : i < xs.length := by rw [hx]; exact (Array.getElem?_eq_some_iff.1 hfi).1
 obtain ⟨hil, hv⟩ := List.getElem?_eq_some_iff.1 hi
 rw [ho, hc, List.getElem?_eq_getElem hlt, show (cs.drop i).take 1 = [v] from by rw [List.drop_eq_getElem_cons hil, hv]; rfl] at h1
 obtain ⟨A, len, cap, L, h2, h3, h4, h5, h6, h7, h8⟩ := row_in hu op hk h1
 injection h2 with h2 _
 exact ⟨(A, len, cap, L), h2, h3, h4, h5, h6, h7, h8⟩
theorem house_in {r : Reach} {b0 : Nat} {v : Value} {d : DataW H} {p : List MemPlace} (hv : Value.okWide Tryz.prog W r b0 37 v) (h : DataW.Trod enc Tryz.prog W 0 (fun _ => true) true 37 v d p) :
 ∃ (hs : Hs) (L : Nat → List (List Value)), v = .agg hs.cells ∧ HIn hs L W := by
 obtain ⟨cs, rfl, _⟩ := okWide_struct Tryz.underlying37 hv
 obtain ⟨fuel, hf⟩ := h
 obtain ⟨xs, n, _, _, hl, hx, hg⟩ := DataW.trod_struct Tryz.underlying37 hf
 simp only [Value.cells] at hl hg
 rw [show Tryz.prog.cellsOf 37 = 15 from by kernel_rfl] at hl
 obtain ⟨l, rfl⟩ : ∃ l : List Value, cs = l.toArray := ⟨cs.toList, rfl⟩
 simp only [] at hl hg
 match l, hl with
 | [c0, c1, c2, c3, c4, c5, c6, c7, c8, c9, c10, c11, c12, c13, c14], hl =>
  obtain ⟨q0, h0⟩ := field_in hx hg 0 _ 70 kItem rfl rfl (by kernel_rfl) Tryz.underlying22 opItem (by decide) c0 rfl
  obtain ⟨q1, h1⟩ := field_in hx hg 1 _ 73 kLot rfl rfl (by kernel_rfl) Tryz.underlying23 opLot (by decide) c1 rfl
  obtain ⟨q2, h2⟩ := field_in hx hg 2 _ 76 kZone rfl rfl (by kernel_rfl) Tryz.underlying24 opZone (by decide) c2 rfl
  obtain ⟨q3, h3⟩ := field_in hx hg 3 _ 79 kBin rfl rfl (by kernel_rfl) Tryz.underlying25 opBin (by decide) c3 rfl
  obtain ⟨q4, h4⟩ := field_in hx hg 4 _ 62 kQuant rfl rfl (by kernel_rfl) Tryz.underlying26 opQuant (by decide) c4 rfl
  obtain ⟨q5, h5⟩ := field_in hx hg 5 _ 83 kRule rfl rfl (by kernel_rfl) Tryz.underlying27 opRule (by decide) c5 rfl
  obtain ⟨q6, h6⟩ := field_in hx hg 6 _ 86 kNotice rfl rfl (by kernel_rfl) Tryz.underlying28 opNotice (by decide) c6 rfl
  obtain ⟨q7, h7⟩ := field_in hx hg 7 _ 42 kOrder rfl rfl (by kernel_rfl) Tryz.underlying29 opOrder (by decide) c7 rfl
  obtain ⟨q8, h8⟩ := field_in hx hg 8 _ 46 kClaim rfl rfl (by kernel_rfl) Tryz.underlying30 opClaim (by decide) c8 rfl
  obtain ⟨q9, h9⟩ := field_in hx hg 9 _ 91 kTask rfl rfl (by kernel_rfl) Tryz.underlying31 opTask (by decide) c9 rfl
  obtain ⟨q10, h10⟩ := field_in hx hg 10 _ 94 kParcel rfl rfl (by kernel_rfl) Tryz.underlying32 opParcel (by decide) c10 rfl
  obtain ⟨q11, h11⟩ := field_in hx hg 11 _ 97 kSent rfl rfl (by kernel_rfl) Tryz.underlying33 opSent (by decide) c11 rfl
  obtain ⟨q12, h12⟩ := field_in hx hg 12 _ 100 kCounted rfl rfl (by kernel_rfl) Tryz.underlying34 opCounted (by decide) c12 rfl
  obtain ⟨q13, h13⟩ := field_in hx hg 13 _ 103 kTotal rfl rfl (by kernel_rfl) Tryz.underlying35 opTotal (by decide) c13 rfl
  have hz := hg 14 _ rfl
  have hlt : 14 < xs.length := by rw [hx]; decide
  rw [List.getElem?_eq_getElem hlt] at hz
  obtain ⟨⟨z, hcz⟩, hm⟩ : (∃ z : Int, [c14] = [.int .i64 z]) ∧ ∀ u ∈ [c14], Mild u := by
   have := (opI).op hz
   have e := this.1.1
   obtain ⟨z, hz⟩ := e
   exact ⟨⟨z, by rw [← hz]⟩, this.2⟩
  injection hcz with hcz _
  subst hcz
  obtain ⟨rfl, h0⟩ := h0
  obtain ⟨rfl, h1⟩ := h1
  obtain ⟨rfl, h2⟩ := h2
  obtain ⟨rfl, h3⟩ := h3
  obtain ⟨rfl, h4⟩ := h4
  obtain ⟨rfl, h5⟩ := h5
  obtain ⟨rfl, h6⟩ := h6
  obtain ⟨rfl, h7⟩ := h7
  obtain ⟨rfl, h8⟩ := h8
  obtain ⟨rfl, h9⟩ := h9
  obtain ⟨rfl, h10⟩ := h10
  obtain ⟨rfl, h11⟩ := h11
  obtain ⟨rfl, h12⟩ := h12
  obtain ⟨rfl, h13⟩ := h13
  refine ⟨⟨at14 q0.1 q1.1 q2.1 q3.1 q4.1 q5.1 q6.1 q7.1 q8.1 q9.1 q10.1 q11.1 q12.1 q13.1 none, at14 q0.2.1 q1.2.1 q2.2.1 q3.2.1 q4.2.1 q5.2.1 q6.2.1 q7.2.1 q8.2.1 q9.2.1 q10.2.1 q11.2.1 q12.2.1 q13.2.1 0, at14 q0.2.2.1 q1.2.2.1 q2.2.2.1 q3.2.2.1 q4.2.2.1 q5.2.2.1 q6.2.2.1 q7.2.2.1 q8.2.2.1 q9.2.2.1 q10.2.2.1 q11.2.2.1 q12.2.2.1 q13.2.2.1 0, z⟩, at14 q0.2.2.2 q1.2.2.2 q2.2.2.2 q3.2.2.2 q4.2.2.2 q5.2.2.2 q6.2.2.2 q7.2.2.2 q8.2.2.2 q9.2.2.2 q10.2.2.2 q11.2.2.2 q12.2.2.2 q13.2.2.2 [], rfl, ?_⟩
  have hall : ∀ i, i < 14 → LIn (kOf i) W (.slice (at14 q0.1 q1.1 q2.1 q3.1 q4.1 q5.1 q6.1 q7.1 q8.1 q9.1 q10.1 q11.1 q12.1 q13.1 none i) (at14 q0.2.1 q1.2.1 q2.2.1 q3.2.1 q4.2.1 q5.2.1 q6.2.1 q7.2.1 q8.2.1 q9.2.1 q10.2.1 q11.2.1 q12.2.1 q13.2.1 0 i) (at14 q0.2.2.1 q1.2.2.1 q2.2.2.1 q3.2.2.1 q4.2.2.1 q5.2.2.1 q6.2.2.1 q7.2.2.1 q8.2.2.1 q9.2.2.1 q10.2.2.1 q11.2.2.1 q12.2.2.1 q13.2.2.1 0 i)) (at14 q0.1 q1.1 q2.1 q3.1 q4.1 q5.1 q6.1 q7.1 q8.1 q9.1 q10.1 q11.1 q12.1 q13.1 none i) (at14 q0.2.1 q1.2.1 q2.2.1 q3.2.1 q4.2.1 q5.2.1 q6.2.1 q7.2.1 q8.2.1 q9.2.1 q10.2.1 q11.2.1 q12.2.1 q13.2.1 0 i) (at14 q0.2.2.1 q1.2.2.1 q2.2.2.1 q3.2.2.1 q4.2.2.1 q5.2.2.1 q6.2.2.1 q7.2.2.1 q8.2.2.1 q9.2.2.1 q10.2.2.1 q11.2.2.1 q12.2.2.1 q13.2.2.1 0 i) (at14 q0.2.2.2 q1.2.2.2 q2.2.2.2 q3.2.2.2 q4.2.2.2 q5.2.2.2 q6.2.2.2 q7.2.2.2 q8.2.2.2 q9.2.2.2 q10.2.2.2 q11.2.2.2 q12.2.2.2 q13.2.2.2 [] i) := fun i hi => by
   match i, hi with
   | 0, _ => exact ⟨rfl, h0⟩
   | 1, _ => exact ⟨rfl, h1⟩
   | 2, _ => exact ⟨rfl, h2⟩
   | 3, _ => exact ⟨rfl, h3⟩
   | 4, _ => exact ⟨rfl, h4⟩
   | 5, _ => exact ⟨rfl, h5⟩
   | 6, _ => exact ⟨rfl, h6⟩
   | 7, _ => exact ⟨rfl, h7⟩
   | 8, _ => exact ⟨rfl, h8⟩
   | 9, _ => exact ⟨rfl, h9⟩
   | 10, _ => exact ⟨rfl, h10⟩
   | 11, _ => exact ⟨rfl, h11⟩
   | 12, _ => exact ⟨rfl, h12⟩
   | 13, _ => exact ⟨rfl, h13⟩
   | i + 14, hi => omega
  exact ⟨fun i hi => (hall i hi).2.1, fun i hi => ⟨(hall i hi).2.2.1, (hall i hi).2.2.2.1⟩, fun i hi => (hall i hi).2.2.2.2.1, fun i hi => (hall i hi).2.2.2.2.2.1, fun i hi => (hall i hi).2.2.2.2.2.2, (show Mild (.int .i64 z) from hm _ (by simp))⟩
end
theorem HIn.ht {h : Hs} {L : Nat → List (List Value)} {w W : World} (H : HIn h L w) (hs : h.small) (hb : Below w.heap.size w W) : HT h L W := fun i hi =>
 ⟨H.n i hi, Nat.le_trans (hs i hi) (Nat.le_trans (cap_le i hi) (by decide)), H.t i hi, ((H.r i hi).below hb).mono hb.size⟩
end Go.Proofs.YtlkmccmbpnbgbaaGreat

namespace Go.Proofs.YtlkmccmbpnbgbaaGreat
open Go.ChangeShapes Go.WideShapes Go.Deep Go.RowKit Go.Joins
set_option linter.unusedVariables false
set_option maxRecDepth 100000

section
variable {H : Type} {enc : TypeId × Value → H} {W : World}
end
end Go.Proofs.YtlkmccmbpnbgbaaGreat

namespace Go.Proofs.YtlkmccmbpnbgbaaGreat
set_option linter.unusedVariables false
open Go.RowKit
open Pl (firstG findG putG overG)

set_option maxRecDepth 100000 in
theorem cmpstr_any (a b : ByteArray) (w : World) : Calls Tryz.prog 120 #[.string a, .string b] w fun e w' => e = .returned (.int .i64 (Pl.cmp a b)) ∧ w' = w := by
 have H := Lib.hid (Pl.compare_eq a b)
 go_enter Tryz.func120, Tryz.ntmps120
 go_wp2
 rw [run_callFunc_extern Tryz.func145 (by kernel_rfl) (by kernel_rfl) (by kernel_rfl) (e := Extern.BytealgCompare.compare) (by kernel_rfl), Lib.run_compareString]
 simp only [Result.andThen]
 rw [Oper.upon_value]
 go_wp2
 go_ret
 exact ⟨by rw [← H.out]; rfl, rfl⟩
theorem compare_any (a b : ByteArray) (w : World) : Calls Tryz.prog 88 #[.string a, .string b] w fun e w' => e = .returned (.int .i64 (Pl.cmp a b)) ∧ w' = w := by
 go_enter Tryz.func88, Tryz.ntmps88
 go_wp2_with fail
 refine (cmpstr_any a b _).mono ?_
 rintro e w' ⟨rfl, rfl⟩
 go_wp2_with fail
 go_ret
 exact ⟨rfl, rfl⟩
/-- A thing's code. -/
def codeOf : List Value → ByteArray
 | .string s :: _ => s
 | _ => ByteArray.empty
theorem store_func (P : Program) (w : World) (a : Addr) (m : Mode) (f : Fn) (x y : Array Value) : (store a (.func f x y) m).run P w = stored P w a (.func f x y) m := run_store P w a _ m rfl
/-- Two results: a struct's box, and a value. -/
theorem results_row_tmp {P : Program} {fn : Func} {p q : Tmp} {ty : TypeId} (h : fn.results = #[.cell p ty, .tmp q]) (tmps : Array Value) (w : World) (g : Nat) (t : TypeId) (cs : Array Value) (fr : Nat × Nat) (d : TypeDesc)
 (hp : tmps.getD p undef = .pointer (some ⟨g, 0, none⟩)) (hg : w.heap[g]? = some (.cells cs t fr))
 (hu : P.underlying ty = some d) (hd : (match d with | .struct _ | .array _ _ => true | _ => false) = true) (hi : (P.info? ty).map (·.size) = some cs.size) :
 (results fn tmps).run P w = .ok (.tuple #[.agg cs, tmps.getD q undef]) w := by
 have hp' : tmps[p]?.getD undef = .pointer (some ⟨g, 0, none⟩) := by simpa using hp
 simp [results, h, hp', asAddr, run_loadVar_row w g t ty cs fr d hg hu hd hi]
end Go.Proofs.YtlkmccmbpnbgbaaGreat

namespace Go.Proofs.YtlkmccmbpnbgbaaGreat
set_option linter.unusedVariables false
open Go.RowKit
open Pl (firstG findG putG overG)

def ordItem (a b : List Value) : Int := Pl.cmp (codeOf a) (codeOf b)
theorem code_Item {x : List Value} (h : Fits kItem x) : ∃ r, x = .string (codeOf x) :: r := by
 match x, h with
 | v :: r, h => obtain ⟨d, rfl⟩ := h.1; exact ⟨r, rfl⟩
def zeroItem : List Value := [.string ⟨#[]⟩, .string ⟨#[]⟩, .int .i64 0, .string ⟨#[]⟩, .int .i64 0, .string ⟨#[]⟩, .int .i64 0, .string ⟨#[]⟩, .int .i64 0, .int .i64 0, .int .i64 0, .bool false, .bool false, .bool false]
def keyItem (s : ByteArray) : List Value := [.string s, .string ⟨#[]⟩, .int .i64 0, .string ⟨#[]⟩, .int .i64 0, .string ⟨#[]⟩, .int .i64 0, .string ⟨#[]⟩, .int .i64 0, .int .i64 0, .int .i64 0, .bool false, .bool false, .bool false]
theorem keyItem_fits (s : ByteArray) : Fits kItem (keyItem s) := ⟨⟨_, rfl⟩, ⟨_, rfl⟩, ⟨_, rfl⟩, ⟨_, rfl⟩, ⟨_, rfl⟩, ⟨_, rfl⟩, ⟨_, rfl⟩, ⟨_, rfl⟩, ⟨_, rfl⟩, ⟨_, rfl⟩, ⟨_, rfl⟩, ⟨_, rfl⟩, ⟨_, rfl⟩, ⟨_, rfl⟩, trivial⟩
theorem zeroItem_fits : Fits kItem zeroItem := keyItem_fits _
/-- Where an item of a code stands; the item. -/
def atItem (L : List (List Value)) (s : ByteArray) : Option Nat := findG ordItem L (keyItem s)
def gotItem (L : List (List Value)) (s : ByteArray) : List Value := match atItem L s with | some i => L.getD i zeroItem | none => zeroItem
theorem gotItem_fits {L : List (List Value)} (h : Things kItem L) (s : ByteArray) : Fits kItem (gotItem L s) := by
 unfold gotItem
 split
 · rename_i i hi
   have hl : i < L.length := Pl.firstG_lt hi
   rw [List.getD_eq_getElem?_getD, List.getElem?_eq_getElem hl]
   exact h _ (List.getElem_mem hl)
 · exact zeroItem_fits
theorem atItem_first (L : List (List Value)) (s : ByteArray) : atItem L s = firstG (fun e => Pl.eqv (codeOf e) s) L := by
 unfold atItem findG
 congr 1
 funext e
 exact Pl.cmp_zero _ _
end Go.Proofs.YtlkmccmbpnbgbaaGreat

namespace Go.Proofs.YtlkmccmbpnbgbaaGreat
set_option linter.unusedVariables false
open Go.RowKit
open Pl (firstG findG putG overG)

def ordZone (a b : List Value) : Int := Pl.cmp (codeOf a) (codeOf b)
theorem code_Zone {x : List Value} (h : Fits kZone x) : ∃ r, x = .string (codeOf x) :: r := by
 match x, h with
 | v :: r, h => obtain ⟨d, rfl⟩ := h.1; exact ⟨r, rfl⟩
def zeroZone : List Value := [.string ⟨#[]⟩, .string ⟨#[]⟩]
def keyZone (s : ByteArray) : List Value := [.string s, .string ⟨#[]⟩]
theorem keyZone_fits (s : ByteArray) : Fits kZone (keyZone s) := ⟨⟨_, rfl⟩, ⟨_, rfl⟩, trivial⟩
theorem zeroZone_fits : Fits kZone zeroZone := keyZone_fits _
/-- Where an item of a code stands; the item. -/
def atZone (L : List (List Value)) (s : ByteArray) : Option Nat := findG ordZone L (keyZone s)
def gotZone (L : List (List Value)) (s : ByteArray) : List Value := match atZone L s with | some i => L.getD i zeroZone | none => zeroZone
theorem gotZone_fits {L : List (List Value)} (h : Things kZone L) (s : ByteArray) : Fits kZone (gotZone L s) := by
 unfold gotZone
 split
 · rename_i i hi
   have hl : i < L.length := Pl.firstG_lt hi
   rw [List.getD_eq_getElem?_getD, List.getElem?_eq_getElem hl]
   exact h _ (List.getElem_mem hl)
 · exact zeroZone_fits
theorem atZone_first (L : List (List Value)) (s : ByteArray) : atZone L s = firstG (fun e => Pl.eqv (codeOf e) s) L := by
 unfold atZone findG
 congr 1
 funext e
 exact Pl.cmp_zero _ _
end Go.Proofs.YtlkmccmbpnbgbaaGreat

namespace Go.Proofs.YtlkmccmbpnbgbaaGreat
set_option linter.unusedVariables false
open Go.RowKit
open Pl (firstG findG putG overG)

def ordBin (a b : List Value) : Int := Pl.cmp (codeOf a) (codeOf b)
theorem code_Bin {x : List Value} (h : Fits kBin x) : ∃ r, x = .string (codeOf x) :: r := by
 match x, h with
 | v :: r, h => obtain ⟨d, rfl⟩ := h.1; exact ⟨r, rfl⟩
def zeroBin : List Value := [.string ⟨#[]⟩, .string ⟨#[]⟩, .int .i64 0, .int .i64 0, .int .i64 0, .int .i64 0, .int .i64 0, .bool false]
def keyBin (s : ByteArray) : List Value := [.string s, .string ⟨#[]⟩, .int .i64 0, .int .i64 0, .int .i64 0, .int .i64 0, .int .i64 0, .bool false]
theorem keyBin_fits (s : ByteArray) : Fits kBin (keyBin s) := ⟨⟨_, rfl⟩, ⟨_, rfl⟩, ⟨_, rfl⟩, ⟨_, rfl⟩, ⟨_, rfl⟩, ⟨_, rfl⟩, ⟨_, rfl⟩, ⟨_, rfl⟩, trivial⟩
theorem zeroBin_fits : Fits kBin zeroBin := keyBin_fits _
/-- Where an item of a code stands; the item. -/
def atBin (L : List (List Value)) (s : ByteArray) : Option Nat := findG ordBin L (keyBin s)
def gotBin (L : List (List Value)) (s : ByteArray) : List Value := match atBin L s with | some i => L.getD i zeroBin | none => zeroBin
theorem gotBin_fits {L : List (List Value)} (h : Things kBin L) (s : ByteArray) : Fits kBin (gotBin L s) := by
 unfold gotBin
 split
 · rename_i i hi
   have hl : i < L.length := Pl.firstG_lt hi
   rw [List.getD_eq_getElem?_getD, List.getElem?_eq_getElem hl]
   exact h _ (List.getElem_mem hl)
 · exact zeroBin_fits
theorem atBin_first (L : List (List Value)) (s : ByteArray) : atBin L s = firstG (fun e => Pl.eqv (codeOf e) s) L := by
 unfold atBin findG
 congr 1
 funext e
 exact Pl.cmp_zero _ _
end Go.Proofs.YtlkmccmbpnbgbaaGreat

namespace Go.Proofs.YtlkmccmbpnbgbaaGreat
set_option linter.unusedVariables false
open Go.RowKit
open Pl (firstG findG putG overG)

end Go.Proofs.YtlkmccmbpnbgbaaGreat

namespace Go.Proofs.YtlkmccmbpnbgbaaGreat.Pl
set_option linter.unusedVariables false

end Go.Proofs.YtlkmccmbpnbgbaaGreat.Pl

namespace Go.Proofs.YtlkmccmbpnbgbaaGreat
set_option linter.unusedVariables false
open Go.RowKit
open Pl (firstG findG putG)

def itemL : List Value → ByteArray
 | .string s :: _ => s
 | _ => ⟨#[]⟩
def codeL : List Value → ByteArray
 | _ :: .string s :: _ => s
 | _ => ⟨#[]⟩
def expL : List Value → Int
 | _ :: _ :: .int _ z :: _ => z
 | _ => 0
theorem lot_cells {x : List Value} (h : Fits kLot x) : x = [.string (itemL x), .string (codeL x), .int .i64 (expL x)] := by
 match x, h with
 | [c0, c1, c2], h =>
  obtain ⟨⟨a0, rfl⟩, ⟨a1, rfl⟩, ⟨a2, rfl⟩, _⟩ := h
  rfl
theorem lot_fits (a c : ByteArray) (z : Int) : Fits kLot [.string a, .string c, .int .i64 z] := ⟨⟨_, rfl⟩, ⟨_, rfl⟩, ⟨_, rfl⟩, trivial⟩
/-- The order of lots: by item, then by code. -/
def ordL (x y : List Value) : Int := if Pl.cmp (itemL x) (itemL y) = 0 then Pl.cmp (codeL x) (codeL y) else Pl.cmp (itemL x) (itemL y)
def keyL (a c : ByteArray) : List Value := [.string a, .string c, .int .i64 0]
def zeroL : List Value := [.string ⟨#[]⟩, .string ⟨#[]⟩, .int .i64 0]
theorem keyL_fits (a c : ByteArray) : Fits kLot (keyL a c) := lot_fits a c 0
theorem zeroL_fits : Fits kLot zeroL := keyL_fits _ _
def atL (L : List (List Value)) (a c : ByteArray) : Option Nat := findG ordL L (keyL a c)
def gotL (L : List (List Value)) (a c : ByteArray) : List Value := match atL L a c with | some i => L.getD i zeroL | none => zeroL
theorem gotL_fits {L : List (List Value)} (h : Things kLot L) (a c : ByteArray) : Fits kLot (gotL L a c) := by
 unfold gotL
 cases hf : atL L a c with
 | none => exact zeroL_fits
 | some i =>
  have hi : i < L.length := Pl.firstG_lt hf
  simp only [List.getD_eq_getElem?_getD, List.getElem?_eq_getElem hi, Option.getD_some]
  exact h _ (List.getElem_mem hi)
theorem cmp_eq_zeroL (a b : ByteArray) : Pl.cmp a b = 0 ↔ Pl.eqv a b = true := by
 have := Pl.cmp_zero a b
 constructor
 · intro h; rw [h] at this; exact this.symm
 · intro h; rw [h] at this; simpa using this
theorem ordL_zero (x y : List Value) : (ordL x y == 0) = (Pl.eqv (itemL x) (itemL y) && Pl.eqv (codeL x) (codeL y)) := by
 unfold ordL
 by_cases h : Pl.cmp (itemL x) (itemL y) = 0
 · rw [if_pos h, (cmp_eq_zeroL _ _).1 h, Bool.true_and]; exact Pl.cmp_zero _ _
 · rw [if_neg h]
   have : Pl.eqv (itemL x) (itemL y) = false := by
    cases hq : Pl.eqv (itemL x) (itemL y) with
    | false => rfl
    | true => exact absurd ((cmp_eq_zeroL _ _).2 hq) h
   rw [this, Bool.false_and]
   simpa using h
theorem atL_first (L : List (List Value)) (a c : ByteArray) : atL L a c = firstG (fun e => Pl.eqv (itemL e) a && Pl.eqv (codeL e) c) L := by
 unfold atL findG
 congr 1
 funext e
 exact ordL_zero e (keyL a c)
/-- The last day of a lot. -/
def dayZ (LL : List (List Value)) (a c : ByteArray) : Int := if expL (gotL LL a c) = 0 then 100001 else expL (gotL LL a c)
end Go.Proofs.YtlkmccmbpnbgbaaGreat

namespace Go.Proofs.YtlkmccmbpnbgbaaGreat
set_option linter.unusedVariables false
open Go.RowKit
open Pl (firstG findG putG)

structure Tl where
 item : ByteArray
 lot : ByteArray
 inn : Int
 out : Int
 back : Int
 fixed : Int
def Tl.cells (x : Tl) : List Value := [.string x.item, .string x.lot, .int .i64 x.inn, .int .i64 x.out, .int .i64 x.back, .int .i64 x.fixed]
theorem Tl.fits (x : Tl) : Fits kTotal x.cells := ⟨⟨_, rfl⟩, ⟨_, rfl⟩, ⟨_, rfl⟩, ⟨_, rfl⟩, ⟨_, rfl⟩, ⟨_, rfl⟩, trivial⟩
/-- So many more came in. -/
def Tl.add (x : Tl) (n : Int) : Tl := ⟨x.item, x.lot, wrap64 (x.inn + n), x.out, x.back, x.fixed⟩
end Go.Proofs.YtlkmccmbpnbgbaaGreat

namespace Go.Proofs.YtlkmccmbpnbgbaaGreat
set_option linter.unusedVariables false
open Go.RowKit
open Pl (firstG findG putG)

/-- A bin. -/
structure Bn where
 code : ByteArray
 zone : ByteArray
 kind : Int
 aisle : Int
 place : Int
 vol : Int
 wei : Int
 frz : Bool
def Bn.cells (x : Bn) : List Value := [.string x.code, .string x.zone, .int .i64 x.kind, .int .i64 x.aisle, .int .i64 x.place, .int .i64 x.vol, .int .i64 x.wei, .bool x.frz]
def bnOf : List Value → Bn
 | [.string a, .string b, .int _ k, .int _ i, .int _ p, .int _ v, .int _ u, .bool f] => ⟨a, b, k, i, p, v, u, f⟩
 | _ => ⟨⟨#[]⟩, ⟨#[]⟩, 0, 0, 0, 0, 0, false⟩
theorem bn_cells {x : List Value} (h : Fits kBin x) : x = (bnOf x).cells := by
 match x, h with
 | [c0, c1, c2, c3, c4, c5, c6, c7], h =>
  obtain ⟨⟨a0, rfl⟩, ⟨a1, rfl⟩, ⟨a2, rfl⟩, ⟨a3, rfl⟩, ⟨a4, rfl⟩, ⟨a5, rfl⟩, ⟨a6, rfl⟩, ⟨a7, rfl⟩, _⟩ := h
  rfl
theorem Bn.fits (x : Bn) : Fits kBin x.cells := ⟨⟨_, rfl⟩, ⟨_, rfl⟩, ⟨_, rfl⟩, ⟨_, rfl⟩, ⟨_, rfl⟩, ⟨_, rfl⟩, ⟨_, rfl⟩, ⟨_, rfl⟩, trivial⟩
theorem bin_eight {h : Hs} {L : Nat → List (List Value)} {w : World} (hh : HT h L w) (s : ByteArray) : ∃ x : Bn, gotBin (L 3) s = x.cells ∧ bnOf (gotBin (L 3) s) = x :=
 ⟨_, bn_cells (gotBin_fits (hh 3 (by decide)).2.2.1 s), rfl⟩
/-- A quant. -/
structure Qn where
 bin : ByteArray
 item : ByteArray
 lot : ByteArray
 st : Int
 qty : Int
 held : Int
def Qn.cells (x : Qn) : List Value := [.string x.bin, .string x.item, .string x.lot, .int .i64 x.st, .int .i64 x.qty, .int .i64 x.held]
def qnOf : List Value → Qn
 | [.string a, .string b, .string c, .int _ s, .int _ q, .int _ l] => ⟨a, b, c, s, q, l⟩
 | _ => ⟨⟨#[]⟩, ⟨#[]⟩, ⟨#[]⟩, 0, 0, 0⟩
theorem qn_cells {x : List Value} (h : Fits kQuant x) : x = (qnOf x).cells := by
 match x, h with
 | [c0, c1, c2, c3, c4, c5], h =>
  obtain ⟨⟨a0, rfl⟩, ⟨a1, rfl⟩, ⟨a2, rfl⟩, ⟨a3, rfl⟩, ⟨a4, rfl⟩, ⟨a5, rfl⟩, _⟩ := h
  rfl
theorem Qn.fits (x : Qn) : Fits kQuant x.cells := ⟨⟨_, rfl⟩, ⟨_, rfl⟩, ⟨_, rfl⟩, ⟨_, rfl⟩, ⟨_, rfl⟩, ⟨_, rfl⟩, trivial⟩
end Go.Proofs.YtlkmccmbpnbgbaaGreat

namespace Go.Proofs.YtlkmccmbpnbgbaaGreat
set_option linter.unusedVariables false
open Go.RowKit
open Pl (firstG findG putG It)

/-- An item by its fields. -/
def itOf : List Value → It
 | [.string c, .string n0, .int _ f0, .string n1, .int _ f1, .string n2, .int _ f2, .string n3, .int _ f3, .int _ v, .int _ w, .bool l, .bool s, .bool k] => ⟨c, Pl.at4 n0 n1 n2 n3, Pl.at4 f0 f1 f2 f3, v, w, l, s, k⟩
 | _ => ⟨⟨#[]⟩, fun _ => ⟨#[]⟩, fun _ => 0, 0, 0, false, false, false⟩
theorem it_cells {x : List Value} (h : Fits kItem x) : x = (itOf x).cells := by
 match x, h with
 | [c0, c1, c2, c3, c4, c5, c6, c7, c8, c9, c10, c11, c12, c13], h =>
  obtain ⟨⟨a0, rfl⟩, ⟨a1, rfl⟩, ⟨a2, rfl⟩, ⟨a3, rfl⟩, ⟨a4, rfl⟩, ⟨a5, rfl⟩, ⟨a6, rfl⟩, ⟨a7, rfl⟩, ⟨a8, rfl⟩, ⟨a9, rfl⟩, ⟨a10, rfl⟩, ⟨a11, rfl⟩, ⟨a12, rfl⟩, ⟨a13, rfl⟩, _⟩ := h
  rfl
theorem item_it {h : Hs} {L : Nat → List (List Value)} {w : World} (hh : HT h L w) (s : ByteArray) : ∃ x : It, gotItem (L 0) s = x.cells ∧ itOf (gotItem (L 0) s) = x :=
 ⟨_, it_cells (gotItem_fits (hh 0 (by decide)).2.2.1 s), rfl⟩
end Go.Proofs.YtlkmccmbpnbgbaaGreat

namespace Go.Proofs.YtlkmccmbpnbgbaaGreat
set_option linter.unusedVariables false
namespace Pl

/-- The first least of those that P takes, among the first k. -/
def best (less : Nat → Nat → Bool) (P : Nat → Bool) : Nat → Option Nat
 | 0 => none
 | k + 1 => if P k = true then (match best less P k with
  | none => some k
  | some j => if less k j = true then some k else some j) else best less P k
theorem best_lt {less : Nat → Nat → Bool} {P : Nat → Bool} : ∀ {k i : Nat}, best less P k = some i → i < k ∧ P i = true
 | 0, i, h => by simp [best] at h
 | k + 1, i, h => by
  unfold best at h
  by_cases hp : P k = true
  · rw [if_pos hp] at h
    cases hb : best less P k with
    | none => rw [hb] at h; simp only [Option.some.injEq] at h; subst h; exact ⟨by omega, hp⟩
    | some j =>
     rw [hb] at h
     simp only [] at h
     by_cases hl : less k j = true
     · rw [if_pos hl] at h; simp only [Option.some.injEq] at h; subst h; exact ⟨by omega, hp⟩
     · rw [if_neg hl] at h; simp only [Option.some.injEq] at h; subst h
       have := best_lt hb
       exact ⟨by omega, this.2⟩
  · rw [if_neg hp] at h
    have := best_lt h
    exact ⟨by omega, this.2⟩
theorem best_none {less : Nat → Nat → Bool} {P : Nat → Bool} : ∀ {k : Nat}, best less P k = none ↔ ∀ i, i < k → P i = false
 | 0 => ⟨fun _ i h => by omega, fun _ => rfl⟩
 | k + 1 => by
  constructor
  · intro h i hi
    unfold best at h
    by_cases hp : P k = true
    · rw [if_pos hp] at h
      cases hb : best less P k with
      | none => rw [hb] at h; simp at h
      | some j => rw [hb] at h; simp only [] at h; split at h <;> simp at h
    · rw [if_neg hp] at h
      by_cases hik : i = k
      · subst hik; simpa using hp
      · exact best_none.1 h i (by omega)
  · intro h
    unfold best
    rw [if_neg (by rw [h k (by omega)]; simp)]
    exact best_none.2 (fun i hi => h i (by omega))
theorem best_congr {less less' : Nat → Nat → Bool} {P P' : Nat → Bool} : ∀ {k : Nat}, (∀ i, i < k → P i = P' i) → (∀ i j, i < k → j < k → less i j = less' i j) → best less P k = best less' P' k
 | 0, _, _ => rfl
 | k + 1, hP, hl => by
  have ih := best_congr (less := less) (less' := less') (P := P) (P' := P') (k := k) (fun i hi => hP i (by omega)) (fun i j hi hj => hl i j (by omega) (by omega))
  unfold best
  rw [hP k (by omega), ih]
  cases hb : best less' P' k with
  | none => rfl
  | some j =>
   have := (best_lt hb).1
   simp only []
   rw [hl k j (by omega) (by omega)]
theorem best_no {less : Nat → Nat → Bool} {P : Nat → Bool} {k : Nat} (h : P k = false) : best less P (k + 1) = best less P k := by
 show (if P k = true then _ else _) = _
 rw [if_neg (by rw [h]; simp)]
theorem best_first {less : Nat → Nat → Bool} {P : Nat → Bool} {k : Nat} (h : P k = true) (hb : best less P k = none) : best less P (k + 1) = some k := by
 show (if P k = true then _ else _) = _
 rw [if_pos h, hb]
theorem best_less {less : Nat → Nat → Bool} {P : Nat → Bool} {k j : Nat} (h : P k = true) (hb : best less P k = some j) (hl : less k j = true) : best less P (k + 1) = some k := by
 show (if P k = true then _ else _) = _
 rw [if_pos h, hb]
 simp only []
 rw [if_pos hl]
theorem best_keep {less : Nat → Nat → Bool} {P : Nat → Bool} {k j : Nat} (h : P k = true) (hb : best less P k = some j) (hl : less k j = false) : best less P (k + 1) = some j := by
 show (if P k = true then _ else _) = _
 rw [if_pos h, hb]
 simp only []
 rw [if_neg (by rw [hl]; simp)]
/-- A place, or -1. -/
def atI : Option Nat → Int
 | none => -1
 | some j => (j : Int)
/-- An order by which things may be alike. -/
structure Weak {α : Type} (less : α → α → Bool) : Prop where
 irr : ∀ a, less a a = false
 tr : ∀ a b c, less a b = true → less b c = true → less a c = true
 nt : ∀ a b c, less a c = true → less a b = true ∨ less b c = true
theorem Weak.asymm {α : Type} {less : α → α → Bool} (W : Weak less) {a b : α} (h : less a b = true) : less b a = false := by
 cases hq : less b a with
 | false => rfl
 | true => have := W.tr a b a h hq; rw [W.irr a] at this; cases this
theorem best_min {less : Nat → Nat → Bool} {P : Nat → Bool} (W : Weak less) : ∀ {k i : Nat}, best less P k = some i → (∀ j, j < k → P j = true → less j i = false) ∧ ∀ j, j < i → P j = true → less i j = true
 | 0, i, h => by simp [best] at h
 | k + 1, i, h => by
  unfold best at h
  by_cases hp : P k = true
  · rw [if_pos hp] at h
    cases hb : best less P k with
    | none =>
     rw [hb] at h
     simp only [Option.some.injEq] at h
     subst h
     have hn := best_none.1 hb
     refine ⟨fun j hj hpj => ?_, fun j hj hpj => ?_⟩
     · by_cases hjk : j = k
       · subst hjk; exact W.irr _
       · rw [hn j (by omega)] at hpj; cases hpj
     · rw [hn j hj] at hpj; cases hpj
    | some q =>
     rw [hb] at h
     simp only [] at h
     have ih := best_min W hb
     have hq := best_lt hb
     by_cases hl : less k q = true
     · rw [if_pos hl] at h
       simp only [Option.some.injEq] at h
       subst h
       have key : ∀ j, j < k → P j = true → less k j = true := fun j hj hpj => by
        rcases W.nt k j q hl with h1 | h1
        · exact h1
        · rw [ih.1 j hj hpj] at h1; cases h1
       refine ⟨fun j hj hpj => ?_, key⟩
       by_cases hjk : j = k
       · subst hjk; exact W.irr _
       · exact W.asymm (key j (by omega) hpj)
     · rw [if_neg hl] at h
       simp only [Option.some.injEq] at h
       subst h
       refine ⟨fun j hj hpj => ?_, ih.2⟩
       by_cases hjk : j = k
       · subst hjk; simpa using hl
       · exact ih.1 j (by omega) hpj
  · rw [if_neg hp] at h
    have ih := best_min W h
    refine ⟨fun j hj hpj => ?_, ih.2⟩
    by_cases hjk : j = k
    · subst hjk; exact absurd hpj hp
    · exact ih.1 j (by omega) hpj
/-- First by one thing, then by another. -/
def lex {α : Type} (l m : α → α → Bool) (a b : α) : Bool := l a b || (!l b a && m a b)
theorem Weak.lex {α : Type} {l m : α → α → Bool} (L : Weak l) (M : Weak m) : Weak (Pl.lex l m) where
 irr a := by simp [Pl.lex, L.irr, M.irr]
 tr a b c h1 h2 := by
  simp only [Pl.lex, Bool.or_eq_true, Bool.and_eq_true, Bool.not_eq_true'] at h1 h2 ⊢
  rcases h1 with h1 | ⟨h1, h1'⟩
  · rcases h2 with h2 | ⟨h2, h2'⟩
    · exact .inl (L.tr a b c h1 h2)
    · rcases L.nt a c b h1 with h3 | h3
      · exact .inl h3
      · rw [h2] at h3; cases h3
  · rcases h2 with h2 | ⟨h2, h2'⟩
    · rcases L.nt b a c h2 with h3 | h3
      · rw [h1] at h3; cases h3
      · exact .inl h3
    · refine .inr ⟨?_, M.tr a b c h1' h2'⟩
      cases hq : l c a with
      | false => rfl
      | true =>
       rcases L.nt c b a hq with h3 | h3
       · rw [h2] at h3; cases h3
       · rw [h1] at h3; cases h3
 nt a b c h := by
  simp only [Pl.lex, Bool.or_eq_true, Bool.and_eq_true, Bool.not_eq_true'] at h ⊢
  rcases h with h | ⟨h, h'⟩
  · rcases L.nt a b c h with h3 | h3
    · exact .inl (.inl h3)
    · exact .inr (.inl h3)
  · cases h1 : l a b with
    | true => exact .inl (.inl rfl)
    | false =>
     cases h2 : l b c with
     | true => exact .inr (.inl rfl)
     | false =>
      have h3 : l b a = false := by
       cases hq : l b a with
       | false => rfl
       | true =>
        rcases L.nt b c a hq with h4 | h4
        · rw [h2] at h4; cases h4
        · rw [h] at h4; cases h4
      have h5 : l c b = false := by
       cases hq : l c b with
       | false => rfl
       | true =>
        rcases L.nt c a b hq with h4 | h4
        · rw [h] at h4; cases h4
        · rw [h1] at h4; cases h4
      rcases M.nt a b c h' with h6 | h6
      · exact .inl (.inr ⟨h3, h6⟩)
      · exact .inr (.inr ⟨h5, h6⟩)
theorem Weak.int {α : Type} (f : α → Int) : Weak (fun a b : α => decide (f a < f b)) where
 irr a := by simp
 tr a b c h1 h2 := by simp only [decide_eq_true_eq] at *; omega
 nt a b c h := by simp only [decide_eq_true_eq] at *; omega
theorem Weak.text {α : Type} (f : α → ByteArray) : Weak (fun a b : α => lt (f a) (f b)) where
 irr a := lt_irrefl _
 tr a b c h1 h2 := lt_trans h1 h2
 nt a b c h := by
  rcases lt_tri (f a) (f b) with h1 | h1 | h1
  · exact .inl h1
  · rw [h1] at h; exact .inr h
  · exact .inr (lt_trans h1 h)
theorem Weak.on {α β : Type} {less : α → α → Bool} (W : Weak less) (f : β → α) : Weak (fun a b => less (f a) (f b)) :=
 ⟨fun a => W.irr _, fun a b c h1 h2 => W.tr _ _ _ h1 h2, fun a b c h => W.nt _ _ _ h⟩
end Pl
end Go.Proofs.YtlkmccmbpnbgbaaGreat

namespace Go.Proofs.YtlkmccmbpnbgbaaGreat
set_option linter.unusedVariables false
open Go.RowKit
open Pl (firstG findG putG It)

def siteZ : List Value → ByteArray
 | _ :: .string s :: _ => s
 | _ => ⟨#[]⟩
theorem zone_cells {x : List Value} (h : Fits kZone x) : x = [.string (codeOf x), .string (siteZ x)] := by
 match x, h with
 | [c0, c1], h =>
  obtain ⟨⟨a0, rfl⟩, ⟨a1, rfl⟩, _⟩ := h
  rfl
theorem zone_two {h : Hs} {L : Nat → List (List Value)} {w : World} (hh : HT h L w) (s : ByteArray) : ∃ a c, gotZone (L 2) s = [.string a, .string c] ∧ siteZ (gotZone (L 2) s) = c :=
 ⟨_, _, zone_cells (gotZone_fits (hh 2 (by decide)).2.2.1 s), rfl⟩
/-- Of which site a bin is. -/
def siteT (LZ LB : List (List Value)) (s : ByteArray) : ByteArray := if (atBin LB s).isSome = true then siteZ (gotZone LZ (bnOf (gotBin LB s)).zone) else ⟨#[]⟩
/-- Is a text empty? -/
def emp (s : ByteArray) : Bool := s.toList.isEmpty
/-- A rule. -/
structure Rl where
 item : ByteArray
 zone : ByteArray
 rank : Int
def Rl.cells (x : Rl) : List Value := [.string x.item, .string x.zone, .int .i64 x.rank]
theorem Rl.fits (x : Rl) : Fits kRule x.cells := ⟨⟨_, rfl⟩, ⟨_, rfl⟩, ⟨_, rfl⟩, trivial⟩
/-- Was a rule not asked yet? -/
def freeB (A : List Bool) (i : Nat) : Bool := !A.getD i true
theorem freeB_at {A : List Bool} {i : Nat} (h : i < A.length) : freeB A i = !A[i] := by unfold freeB; rw [List.getD_eq_getElem?_getD, List.getElem?_eq_getElem h]; rfl
end Go.Proofs.YtlkmccmbpnbgbaaGreat

namespace Go.Proofs.YtlkmccmbpnbgbaaGreat
set_option linter.unusedVariables false
open Go.RowKit
open Pl (firstG findG putG)

/-- A line. -/
structure Ln where
 item : ByteArray
 asked : Int
 got : Int
 back : Int
 packed : Int
 out : Int
def Ln.cells (x : Ln) : List Value := [.string x.item, .int .i64 x.asked, .int .i64 x.got, .int .i64 x.back, .int .i64 x.packed, .int .i64 x.out]
def lnOf : List Value → Ln
 | [.string a, .int _ b, .int _ c, .int _ d, .int _ e, .int _ f] => ⟨a, b, c, d, e, f⟩
 | _ => ⟨⟨#[]⟩, 0, 0, 0, 0, 0⟩
theorem ln_cells {x : List Value} (h : Fits kLine x) : x = (lnOf x).cells := by
 match x, h with
 | [c0, c1, c2, c3, c4, c5], h =>
  obtain ⟨⟨a0, rfl⟩, ⟨a1, rfl⟩, ⟨a2, rfl⟩, ⟨a3, rfl⟩, ⟨a4, rfl⟩, ⟨a5, rfl⟩, _⟩ := h
  rfl
theorem fits_reps {ks : List CK} : ∀ {n : Nat} {l : List Value}, Fits (reps n ks) l → ∀ i, i < n → Fits ks ((l.drop (i * ks.length)).take ks.length)
 | n + 1, l, h, 0, _ => by
  have := (reps_split h).1
  rwa [Nat.zero_mul, List.drop_zero]
 | n + 1, l, h, i + 1, hi => by
  have := fits_reps (reps_split h).2 i (by omega)
  rw [List.drop_drop] at this
  rw [show (i + 1) * ks.length = ks.length + i * ks.length from by rw [Nat.add_mul]; omega]
  exact this
/-- The i-th of lines that stand cell by cell. -/
def lnAt (l : List Value) (i : Nat) : Ln := lnOf ((l.drop (i * 6)).take 6)
theorem lnAt_cells {l : List Value} (h : Fits kLine8 l) {i : Nat} (hi : i < 8) : (l.drop (i * 6)).take 6 = (lnAt l i).cells := by
 have := fits_reps (n := 8) h i hi
 exact ln_cells this
theorem line_at {w : World} {b o : Nat} {l : List Value} (h : Fits kLine8 l) (hr : w.rangeAt b o l) {i : Nat} (hi : i < 8) : w.rangeAt b (o + i * 6) (lnAt l i).cells := by
 rw [← lnAt_cells h hi]
 intro j v hv
 have hj : j < 6 := by
  have := (List.getElem?_eq_some_iff.1 hv).1
  rw [List.length_take] at this; omega
 rw [List.getElem?_take, if_pos hj, List.getElem?_drop] at hv
 have := hr _ _ hv
 rwa [show o + i * 6 + j = o + (i * 6 + j) from by omega]
theorem emp_eq {s : ByteArray} (h : emp s = true) : s = ⟨#[]⟩ := by
 have h1 : s.toList = [] := List.isEmpty_iff.1 h
 refine (Pl.eqv_iff _ _).1 ?_
 unfold Pl.eqv
 rw [h1, ByteArray.toList_eq]; rfl
/-- Is there no line? -/
def Ln.nil (x : Ln) : Bool := (x.asked == 0 && x.got == 0 && x.back == 0 && x.packed == 0 && x.out == 0)
/-- What is wrong with a line. -/
def lineE (LI : List (List Value)) (l : List Value) (i : Nat) : Nat :=
 let x := lnAt l i
 if emp x.item = true then (if x.nil = true then 0 else 5)
 else if (atItem LI x.item).isSome = false then 12
 else if ((List.range i).any fun k => Pl.eqv (lnAt l k).item x.item) = true then 11
 else if x.asked < 1 ∨ 1000000000 < x.asked then 10
 else if x.got ≠ 0 ∨ x.back ≠ 0 ∨ x.packed ≠ 0 ∨ x.out ≠ 0 then 5 else 0
theorem lineE_at (LI : List (List Value)) (l : List Value) (i : Nat) (x : Ln) (hx : lnAt l i = x) : lineE LI l i = if emp x.item = true then (if x.nil = true then 0 else 5)
 else if (atItem LI x.item).isSome = false then 12
 else if ((List.range i).any fun k => Pl.eqv (lnAt l k).item x.item) = true then 11
 else if x.asked < 1 ∨ 1000000000 < x.asked then 10
 else if x.got ≠ 0 ∨ x.back ≠ 0 ∨ x.packed ≠ 0 ∨ x.out ≠ 0 then 5 else 0 := by
 subst hx; rfl
/-- The first of several errors. -/
def firstE (f : Nat → Nat) : Nat → Nat
 | 0 => 0
 | n + 1 => if firstE f n ≠ 0 then firstE f n else f n
theorem firstE_le (f : Nat → Nat) {k n : Nat} (hk : k ≤ n) (h : firstE f k ≠ 0) : firstE f n = firstE f k := by
 induction n with
 | zero => rw [show k = 0 from by omega]
 | succ n ih =>
  by_cases e : k = n + 1
  · rw [e]
  · have := ih (by omega)
    show (if firstE f n ≠ 0 then firstE f n else f n) = _
    rw [if_pos (by rw [this]; exact h), this]
theorem firstE_hit (f : Nat → Nat) {k n : Nat} (hk : k < n) (h0 : firstE f k = 0) (h : f k ≠ 0) : firstE f n = f k := by
 have h1 : firstE f (k + 1) = f k := by
  show (if firstE f k ≠ 0 then firstE f k else f k) = _
  rw [if_neg (by rw [h0]; simp)]
 rw [firstE_le f (show k + 1 ≤ n by omega) (by rw [h1]; exact h), h1]
/-- How many lines there are. -/
def usedN (l : List Value) (n : Nat) : Nat := ((List.range n).filter fun i => !(emp (lnAt l i).item)).length
theorem usedN_succ (l : List Value) (n : Nat) : usedN l (n + 1) = if emp (lnAt l n).item = true then usedN l n else usedN l n + 1 := by
 unfold usedN
 rw [List.range_succ, List.filter_append, List.length_append]
 cases h : emp (lnAt l n).item with
 | true => simp [h]
 | false => simp [h]
theorem usedN_le (l : List Value) (n : Nat) : usedN l n ≤ n := by
 unfold usedN
 refine Nat.le_trans (List.length_filter_le _ _) ?_
 simp
/-- What is wrong with lines. -/
def linesE (LI : List (List Value)) (l : List Value) : Nat := if firstE (lineE LI l) 8 ≠ 0 then firstE (lineE LI l) 8 else if usedN l 8 = 0 then 12 else 0
theorem any_snoc (p : Nat → Bool) (k : Nat) : ((List.range (k + 1)).any p) = ((List.range k).any p || p k) := by
 rw [List.range_succ, List.any_append]; simp
/-- Is there a zone of a site? -/
def zonedB (LZ : List (List Value)) (s : ByteArray) : Bool := LZ.any fun z => Pl.eqv (siteZ z) s
theorem zonedB_snoc (LZ : List (List Value)) (s : ByteArray) (k : Nat) (hk : k < LZ.length) : zonedB (LZ.take (k + 1)) s = (zonedB (LZ.take k) s || Pl.eqv (siteZ LZ[k]) s) := by
 unfold zonedB
 rw [List.take_succ_eq_append_getElem hk, List.any_append]; simp
/-- A notice's site, lines, whether it is shut; the notice shut. -/
def nsite (x : List Value) : ByteArray := match (x[1]? : Option Value) with
 | some (Value.string s) => s
 | _ => ⟨#[]⟩
end Go.Proofs.YtlkmccmbpnbgbaaGreat

namespace Go.Proofs.YtlkmccmbpnbgbaaGreat
set_option linter.unusedVariables false
open Go.RowKit

/-- Texts held against one another, the first ones first. -/
def cmps : List ByteArray → List ByteArray → Int
 | a :: l, b :: m => if Pl.lt a b = true then -1 else if Pl.lt b a = true then 1 else cmps l m
 | _, _ => 0
theorem cmps_one (a b : ByteArray) : cmps [a] [b] = Pl.cmp a b := by
 unfold cmps Pl.cmp
 by_cases h : Pl.lt a b = true
 · rw [if_pos h, if_pos h]
 · rw [if_neg h, if_neg h]
   by_cases k : Pl.eqv a b = true
   · have := (Pl.eqv_iff a b).1 k
     subst this
     rw [if_neg (by rw [Pl.lt_irrefl]; simp), if_pos k]; rfl
   · have : Pl.lt b a = true := by
      rcases Pl.lt_tri a b with h' | h' | h'
      · exact absurd h' h
      · exact absurd ((Pl.eqv_iff a b).2 h') k
      · exact h'
     rw [if_pos this, if_neg k]
theorem cmps_drop {l r : List ByteArray} {k : Nat} (h : cmps l r = cmps (l.drop k) (r.drop k)) (hl : k < l.length) (hr : k < r.length) : cmps l r = if Pl.lt l[k] r[k] = true then -1 else if Pl.lt r[k] l[k] = true then 1 else cmps (l.drop (k + 1)) (r.drop (k + 1)) := by
 rw [h, List.drop_eq_getElem_cons hl, List.drop_eq_getElem_cons hr]; rfl

set_option maxRecDepth 100000 in
set_option maxHeartbeats 800000 in
theorem texts_any (A B : Option Addr) (n c m d : Nat) (l r : List ByteArray) (w : World) (hn : n = l.length) (hm : m = r.length) (hlr : l.length = r.length) (hn6 : n ≤ 1000) (hA : Rd w w.heap.size A (sc l)) (hB : Rd w w.heap.size B (sc r)) :
 Calls Tryz.prog 119 #[.slice A n c, .slice B m d] w fun e w' => e = .returned (.int .i64 (cmps l r)) ∧ Below w.heap.size w w' := by
 obtain rfl : m = n := by omega
 have HN := Lib.hid hn
 have HM := Lib.hid hm
 have HA := Lib.hid hA
 have HB := Lib.hid hB
 clear hn hm hlr hA hB
 go_enter Tryz.func119, Tryz.ntmps119
 go_wp2_with fail
 go_loopw [5] (fun i wr => ∃ k : Nat, k ≤ m ∧ i = .int .i64 (k : Int) ∧ Hid (cmps l r = cmps (l.drop k) (r.drop k)) ∧ Hid (∃ q, wr = w.drewN q)) (fun i _ => m - (intOf i).toNat)
 case atStart => exact ⟨0, by omega, rfl, Lib.hid rfl, Lib.hid ⟨0, rfl⟩⟩
 case round =>
  obtain ⟨k, hk, rfl, hE, hq⟩ := hrel
  have HBW : Hid (Below w.heap.size w wr) := Lib.hid (by obtain ⟨q0, hq0⟩ := hq.out; rw [hq0]; exact below_drewN (Below.refl _ _) _)
  by_cases hlt : k < m
  · have hl : k < l.length := by rw [← HN.out]; exact hlt
    have hr : k < r.length := by rw [← HM.out]; exact hlt
    obtain ⟨b, off, rfl, hb, hc⟩ := HA.out.str_at hl
    obtain ⟨b2, off2, rfl, hb2, hc2⟩ := HB.out.str_at hr
    have hE2 := cmps_drop hE.out hl hr
    have c0 : wr.cell? ⟨b, off + k, none⟩ = some (.string l[k]) := (HBW.out.cell (p := ⟨b, off + k, none⟩) hb).trans (hc k hl)
    have c1 : wr.cell? ⟨b2, off2 + k, none⟩ = some (.string r[k]) := (HBW.out.cell (p := ⟨b2, off2 + k, none⟩) hb2).trans (hc2 k hr)
    generalize l[k] = p at hE2 c0
    generalize r[k] = q at hE2 c1
    have h1 : (0 : Int) ≤ (k : Int) := by omega
    have h2 : (k : Int) < (m : Int) := by omega
    clear hc hc2
    rcases Pl.lt_tri p q with hpq | rfl | hpq
    · have HV : Hid (cmps l r = -1) := Lib.hid (by rw [hE2, if_pos hpq])
      have g1 : Op.bytesLess p.toList q.toList = true := hpq
      clear hE2 hpq
      go_wp2_with fail
      go_quiet (fail)
      go_wp2_with fail
      go_ret
      exact ⟨by rw [HV.out]; rfl, below_drewN HBW.out _⟩
    · have HV : Hid (cmps l r = cmps (l.drop (k + 1)) (r.drop (k + 1))) := Lib.hid (by rw [hE2, if_neg (by rw [Pl.lt_irrefl]; simp), if_neg (by rw [Pl.lt_irrefl]; simp)])
      have g1 : Op.bytesLess p.toList p.toList = false := Pl.lt_irrefl p
      have g2 : (p.toList == p.toList) = true := by simp
      clear hE2
      go_wp2_with fail
      go_quiet (fail)
      go_wp2_with fail
      go_quiet (fail)
      go_wp2_with fail
      go_roundw
      case rel => exact ⟨k + 1, by omega, by go_num, HV, Lib.hid (by obtain ⟨q0, hq0⟩ := hq.out; rw [hq0]; exact ⟨_, by simp only [World.drewN_drewN]; rfl⟩)⟩
      case measure => simp [intOf]; omega
    · have HV : Hid (cmps l r = 1) := Lib.hid (by rw [hE2, if_neg (by rw [Pl.lt_asymm hpq]; simp), if_pos hpq])
      have g1 : Op.bytesLess p.toList q.toList = false := Pl.lt_asymm hpq
      have g3 : Op.bytesLess q.toList p.toList = true := hpq
      have g2 : (p.toList == q.toList) = false := by
       rw [Bool.eq_false_iff]; intro e
       have := (Pl.eqv_iff p q).1 e
       subst this
       rw [Pl.lt_irrefl] at hpq; cases hpq
      clear hE2 hpq
      go_wp2_with fail
      go_quiet (fail)
      go_wp2_with fail
      go_quiet (fail)
      go_wp2_with fail
      go_ret
      exact ⟨by rw [HV.out]; rfl, below_drewN (below_drewN HBW.out _) _⟩
  · have HV : Hid (cmps l r = 0) := Lib.hid (by rw [hE.out, List.drop_eq_nil_of_le (by have := HN.out; omega)]; rfl)
    go_wp2_with fail
    go_ret
    exact ⟨by rw [HV.out]; rfl, HBW.out⟩

theorem rd_str {w : World} {b : Nat} {s : ByteArray} {t : TypeId} (h : w.heap[b]? = some (.cells #[.string s] t (0, 0))) : Rd w w.heap.size (some ⟨b, 0, none⟩) (sc [s]) := fun _ => ⟨b, 0, rfl, lt_of_block h, fun j u hu => by
 have hj : j < 1 := by have := (List.getElem?_eq_some_iff.1 hu).1; simpa [sc] using this
 obtain rfl : j = 0 := by omega
 rw [cell_of_block h, ← hu]; rfl⟩
end Go.Proofs.YtlkmccmbpnbgbaaGreat

namespace Go.Proofs.YtlkmccmbpnbgbaaGreat
set_option linter.unusedVariables false
open Go.RowKit
open Pl (firstG findG putG dropG It)

/-- A quant's key. -/
structure Ky where
 bin : ByteArray
 item : ByteArray
 lot : ByteArray
 st : Int
def Ky.cells (k : Ky) : List Value := [.string k.bin, .string k.item, .string k.lot, .int .i64 k.st]
theorem Ky.fits (k : Ky) : Fits kKey k.cells := ⟨⟨_, rfl⟩, ⟨_, rfl⟩, ⟨_, rfl⟩, ⟨_, rfl⟩, trivial⟩
def Qn.ky (q : Qn) : Ky := ⟨q.bin, q.item, q.lot, q.st⟩
theorem Ky.cells_inj {a b : Ky} (h : a.cells = b.cells) : a = b := by
 cases a; cases b
 unfold Ky.cells at h
 injection h with h1 h
 injection h with h2 h
 injection h with h3 h
 injection h with h4 _
 injection h1 with h1
 injection h2 with h2
 injection h3 with h3
 injection h4 with _ h4
 subst h1; subst h2; subst h3; subst h4; rfl
/-- Numbers held against one another. -/
def cmpI (a b : Int) : Int := if a < b then -1 else if b < a then 1 else 0
theorem cmpI_zero (a b : Int) : cmpI a b = 0 ↔ a = b := by
 unfold cmpI
 split
 · constructor <;> intro h <;> omega
 · split
   · constructor <;> intro h <;> omega
   · constructor <;> intro h <;> omega
/-- Keys held against one another. -/
def ordKy (a b : Ky) : Int := if cmps [a.bin, a.item, a.lot] [b.bin, b.item, b.lot] = 0 then cmpI a.st b.st else cmps [a.bin, a.item, a.lot] [b.bin, b.item, b.lot]
theorem cmps_zero : ∀ (l r : List ByteArray), l.length = r.length → (cmps l r = 0 ↔ l = r)
 | [], [], _ => ⟨fun _ => rfl, fun _ => rfl⟩
 | a :: l, b :: r, h => by
  have hc : cmps (a :: l) (b :: r) = if Pl.lt a b = true then -1 else if Pl.lt b a = true then 1 else cmps l r := rfl
  rw [hc]
  by_cases h1 : Pl.lt a b = true
  · rw [if_pos h1]
    exact ⟨fun h => by omega, fun h => by injection h with h2 _; subst h2; rw [Pl.lt_irrefl] at h1; cases h1⟩
  · rw [if_neg h1]
    by_cases h2 : Pl.lt b a = true
    · rw [if_pos h2]
      exact ⟨fun h => by omega, fun h => by injection h with h3 _; subst h3; rw [Pl.lt_irrefl] at h2; cases h2⟩
    · rw [if_neg h2, cmps_zero l r (by simpa using h)]
      have hab : a = b := by
       rcases Pl.lt_tri a b with h' | h' | h'
       · exact absurd h' h1
       · exact h'
       · exact absurd h' h2
      subst hab
      exact ⟨fun h => by rw [h], fun h => by injection h⟩
theorem ordKy_zero (a b : Ky) : ordKy a b = 0 ↔ a = b := by
 unfold ordKy
 by_cases h : cmps [a.bin, a.item, a.lot] [b.bin, b.item, b.lot] = 0
 · rw [if_pos h, cmpI_zero]
   have he := (cmps_zero [a.bin, a.item, a.lot] [b.bin, b.item, b.lot] rfl).1 h
   cases a; cases b
   simp only [List.cons.injEq, and_true] at he
   obtain ⟨h1, h2, h3⟩ := he
   subst h1; subst h2; subst h3
   exact ⟨fun h => by simp only [] at h; subst h; rfl, fun h => by injection h⟩
 · rw [if_neg h]
   exact ⟨fun h' => absurd h' h, fun h' => by subst h'; exact (cmps_zero [a.bin, a.item, a.lot] [a.bin, a.item, a.lot] rfl).2 rfl⟩
def ordQuant (x y : List Value) : Int := ordKy (qnOf x).ky (qnOf y).ky
def isKy (k : Ky) (e : List Value) : Bool := Pl.eqv (qnOf e).bin k.bin && (Pl.eqv (qnOf e).item k.item && (Pl.eqv (qnOf e).lot k.lot && decide ((qnOf e).st = k.st)))
theorem isKy_iff {k : Ky} {e : List Value} : isKy k e = true ↔ (qnOf e).ky = k := by
 unfold isKy
 rw [Bool.and_eq_true, Bool.and_eq_true, Bool.and_eq_true, Pl.eqv_iff, Pl.eqv_iff, Pl.eqv_iff, decide_eq_true_iff]
 cases k
 unfold Qn.ky
 simp only [Ky.mk.injEq]
def zeroQuant : List Value := [.string ⟨#[]⟩, .string ⟨#[]⟩, .string ⟨#[]⟩, .int .i64 0, .int .i64 0, .int .i64 0]
theorem zeroQuant_fits : Fits kQuant zeroQuant := ⟨⟨_, rfl⟩, ⟨_, rfl⟩, ⟨_, rfl⟩, ⟨_, rfl⟩, ⟨_, rfl⟩, ⟨_, rfl⟩, trivial⟩
/-- The place of the first quant of a key; that quant. -/
def atQ (L : List (List Value)) (k : Ky) : Option Nat := firstG (isKy k) L
def gotQ (L : List (List Value)) (k : Ky) : List Value := match atQ L k with | some i => L.getD i zeroQuant | none => zeroQuant
theorem gotQ_fits {L : List (List Value)} (h : Things kQuant L) (k : Ky) : Fits kQuant (gotQ L k) := by
 unfold gotQ
 cases hf : atQ L k with
 | none => exact zeroQuant_fits
 | some i =>
  have hi : i < L.length := Pl.firstG_lt hf
  simp only [List.getD_eq_getElem?_getD, List.getElem?_eq_getElem hi, Option.getD_some]
  exact h _ (List.getElem_mem hi)
theorem findG_atQ (L : List (List Value)) (x : List Value) : findG ordQuant L x = atQ L (qnOf x).ky := by
 unfold findG atQ
 congr 1
 funext e
 have h1 : (ordQuant e x == 0) = true ↔ (qnOf e).ky = (qnOf x).ky := by rw [beq_iff_eq]; exact ordKy_zero _ _
 exact Bool.eq_iff_iff.2 (h1.trans isKy_iff.symm)
theorem quant_six {h : Hs} {L : Nat → List (List Value)} {w : World} (hh : HT h L w) (k : Ky) : ∃ x : Qn, gotQ (L 4) k = x.cells ∧ qnOf (gotQ (L 4) k) = x :=
 ⟨_, qn_cells (gotQ_fits (hh 4 (by decide)).2.2.1 k), rfl⟩
theorem gotQ_ky {L : List (List Value)} {k : Ky} (h : (atQ L k).isSome = true) : (qnOf (gotQ L k)).ky = k := by
 unfold gotQ
 cases hc : atQ L k with
 | none => rw [hc] at h; cases h
 | some i =>
  have hl := Pl.firstG_lt hc
  have ha := Pl.firstG_at hc hl
  simp only [List.getD_eq_getElem?_getD, List.getElem?_eq_getElem hl, Option.getD_some]
  exact isKy_iff.1 ha
/-- A quant put, or dropped, if it is of nothing. -/
def upQ (L : List (List Value)) (q : Qn) : List (List Value) := if q.qty = 0 then dropG ordQuant L q.cells else putG ordQuant L q.cells
def holdE (L : List (List Value)) (k : Ky) (n : Int) : Nat :=
 if (atQ L k).isSome = false then 12
 else if n < -1000000000 ∨ 1000000000 < n then 10
 else if wrap64 ((qnOf (gotQ L k)).qty - (qnOf (gotQ L k)).held) < n ∨ wrap64 ((qnOf (gotQ L k)).held + n) < 0 then 28 else 0
def holdL (L : List (List Value)) (k : Ky) (n : Int) : List (List Value) := upQ L ⟨k.bin, k.item, k.lot, k.st, (qnOf (gotQ L k)).qty, wrap64 ((qnOf (gotQ L k)).held + n)⟩
theorem dropG_mem {ord : List Value → List Value → Int} {l : List (List Value)} {x e : List Value} (h : e ∈ dropG ord l x) : e ∈ l := by
 unfold dropG at h
 split at h
 · rw [List.mem_append] at h
   exact h.elim List.mem_of_mem_take List.mem_of_mem_drop
 · exact h
theorem dropG_len (ord : List Value → List Value → Int) (l : List (List Value)) (x : List Value) : (dropG ord l x).length ≤ l.length := by
 unfold dropG
 split
 · rw [List.length_append, List.length_take, List.length_drop]; omega
 · exact Nat.le_refl _
theorem upQ_things {L : List (List Value)} (h : Things kQuant L) (q : Qn) : Things kQuant (upQ L q) := fun e he => by
 unfold upQ at he
 split at he
 · exact h e (dropG_mem he)
 · rcases Pl.putG_mem he with rfl | he
   · exact q.fits
   · exact h e he
theorem upQ_len (L : List (List Value)) (q : Qn) : (upQ L q).length ≤ L.length + 1 := by
 unfold upQ
 split
 · have := dropG_len ordQuant L q.cells; omega
 · rw [Pl.putG_len]; split <;> omega
end Go.Proofs.YtlkmccmbpnbgbaaGreat

namespace Go.Proofs.YtlkmccmbpnbgbaaGreat
set_option linter.unusedVariables false
open Go.RowKit
open Pl (firstG findG putG dropG It)

theorem w64 {z : Int} (h1 : -9223372036854775808 ≤ z) (h2 : z ≤ 9223372036854775807) : wrap64 z = z := IntWalk.wrap64_in z ⟨by omega, by omega⟩
theorem Qn.back {q : Qn} {k : Ky} (h : q.ky = k) : (⟨k.bin, k.item, k.lot, k.st, q.qty, q.held⟩ : Qn) = q := by subst h; rfl
end Go.Proofs.YtlkmccmbpnbgbaaGreat

namespace Go.Proofs.YtlkmccmbpnbgbaaGreat
set_option linter.unusedVariables false
open Go.RowKit
open Pl (firstG findG putG It)

/-- What comes in. -/
structure Cm where
 notice : ByteArray
 item : ByteArray
 unit : ByteArray
 n : Int
 lot : ByteArray
 dock : ByteArray
def Cm.cells (x : Cm) : List Value := [.string x.notice, .string x.item, .string x.unit, .int .i64 x.n, .string x.lot, .string x.dock]
end Go.Proofs.YtlkmccmbpnbgbaaGreat

namespace Go.Proofs.YtlkmccmbpnbgbaaGreat
set_option linter.unusedVariables false
open Go.RowKit
/-- The first number that is not 0. -/
def firstNZ : List Int → Int
 | [] => 0
 | z :: l => if z = 0 then firstNZ l else z
theorem or_any (A : Option Addr) (n c : Nat) (l : List Int) (w : World) (hn : n = l.length) (hn6 : n ≤ 1000) (hr : Rd w w.heap.size A (l.map (Value.int .i64))) :
 Calls Tryz.prog 87 #[.slice A n c] w fun e w' => e = .returned (.int .i64 (firstNZ l)) ∧ w' = w := by
 obtain ⟨r, hr0⟩ : ∃ r, firstNZ l = r := ⟨_, rfl⟩
 rw [hr0]
 have HR0 := Lib.hid hr0
 have HN := Lib.hid hn
 have HR := Lib.hid hr
 clear hr0 hr hn
 go_enter Tryz.func87, Tryz.ntmps87
 go_wp2_with fail
 go_loopw [8] (fun kv wr => ∃ k : Nat, k ≤ n ∧ kv = .int .i64 (k : Int) ∧ Hid (firstNZ (l.drop k) = r) ∧ Hid (wr = w)) (fun kv _ => n - (intOf kv).toNat)
 case atStart => exact ⟨0, by omega, rfl, Lib.hid HR0.out, Lib.hid (by first | rfl | trivial)⟩
 case round =>
  obtain ⟨k, hk, rfl, hd, hw⟩ := hrel
  obtain rfl := hw.out
  by_cases hlt : k < n
  · have hkl : k < l.length := by rw [← HN.out]; exact hlt
    obtain ⟨b, off, rfl, hb, hc⟩ := HR.out (by rw [List.length_map]; omega)
    have hs : firstNZ (l.drop k) = if l[k] = 0 then firstNZ (l.drop (k + 1)) else l[k] := by rw [List.drop_eq_getElem_cons hkl]; rfl
    have c0 : wr.cell? ⟨b, off + k, none⟩ = some (.int .i64 l[k]) := hc k _ (by rw [List.getElem?_map, List.getElem?_eq_getElem hkl]; rfl)
    rw [hd.out] at hs
    obtain ⟨z, hz⟩ : ∃ z, l[k] = z := ⟨_, rfl⟩
    rw [hz] at hs c0
    have HS := Lib.hid hs
    have h1 : (0 : Int) ≤ (k : Int) := by omega
    have h2 : (k : Int) < (n : Int) := by omega
    clear hs hz hc hkl
    by_cases hz0 : z = 0
    · have HE : Hid (firstNZ (l.drop (k + 1)) = r) := Lib.hid (by rw [HS.out, if_pos hz0])
      subst hz0
      go_wp2_with fail
      go_roundw
      case rel => exact ⟨k + 1, by omega, by go_num, HE, Lib.hid (by first | rfl | trivial)⟩
      case measure => simp [intOf]; omega
    · have HE : Hid (r = z) := Lib.hid (by rw [HS.out, if_neg hz0])
      have hz1 : (z != 0) = true := by simpa using hz0
      clear hz0
      go_wp2_with fail
      go_ret
      exact ⟨by rw [HE.out]; rfl, rfl⟩
  · have HE : Hid (r = 0) := Lib.hid (by rw [← hd.out, List.drop_eq_nil_of_le (by rw [← HN.out]; omega)]; rfl)
    go_wp2_with fail
    go_ret
    exact ⟨by rw [HE.out]; rfl, rfl⟩
theorem nan_any (z : Int) (w : World) : Calls Tryz.prog 121 #[.int .i64 z] w fun e w' => e = .returned (.bool false) ∧ w' = w := by
 go_enter Tryz.func121, Tryz.ntmps121
 go_wp2_with fail
 go_ret
 exact ⟨by simp, rfl⟩
theorem compareI_any (a b : Int) (w : World) : Calls Tryz.prog 89 #[.int .i64 a, .int .i64 b] w fun e w' => e = .returned (.int .i64 (cmpI a b)) ∧ w' = w := by
 obtain ⟨r, hr⟩ : ∃ r, cmpI a b = r := ⟨_, rfl⟩
 have HR : Hid (r = if a < b then -1 else if b < a then 1 else 0) := Lib.hid (by rw [← hr]; rfl)
 rw [hr]
 clear hr
 have HNA := Lib.hid nan_any
 go_enter Tryz.func89, Tryz.ntmps89
 go_wp2_with fail
 refine (HNA.out a _).mono ?_
 rintro e w1 ⟨rfl, rfl⟩
 go_wp2_with fail
 refine (HNA.out b _).mono ?_
 rintro e w2 ⟨rfl, rfl⟩
 by_cases h1 : a < b
 · have HE : Hid (r = -1) := Lib.hid (by rw [HR.out, if_pos h1])
   go_wp2_with fail
   go_ret
   exact ⟨by rw [HE.out]; rfl, rfl⟩
 · by_cases h2 : b < a
   · have HE : Hid (r = 1) := Lib.hid (by rw [HR.out, if_neg h1, if_pos h2])
     go_wp2_with fail
     go_ret
     exact ⟨by rw [HE.out]; rfl, rfl⟩
   · have HE : Hid (r = 0) := Lib.hid (by rw [HR.out, if_neg h1, if_neg h2])
     go_wp2_with fail
     go_ret
     exact ⟨by rw [HE.out]; rfl, rfl⟩
theorem same_below {P : Program} {f : FuncId} {args : Array Value} {w : World} {e0 : Ending} (h : Calls P f args w fun e w' => e = e0 ∧ w' = w) : Calls P f args w fun e w' => e = e0 ∧ Below w.heap.size w w' := h.mono (fun e w' h => ⟨h.1, by rw [h.2]; exact Below.refl _ _⟩)
theorem orI_neg (a : Int) (l : List Int) (h : a = -1 ∨ a = 0 ∨ a = 1) : decide (firstNZ (a :: l) < 0) = (decide (a < 0) || (!decide (0 < a) && decide (firstNZ l < 0))) := by
 show decide ((if a = 0 then firstNZ l else a) < 0) = _
 rcases h with rfl | rfl | rfl <;> simp
theorem cmpI_three (a b : Int) : cmpI a b = -1 ∨ cmpI a b = 0 ∨ cmpI a b = 1 := by unfold cmpI; split <;> (try split) <;> simp
theorem cmpI_neg (a b : Int) : decide (cmpI a b < 0) = decide (a < b) := by unfold cmpI; split <;> (try split) <;> simp <;> omega
theorem cmpI_pos (a b : Int) : decide (0 < cmpI a b) = decide (b < a) := by unfold cmpI; split <;> (try split) <;> simp <;> omega
theorem cmp_neg (a b : ByteArray) : decide (Pl.cmp a b < 0) = Pl.lt a b := by
 unfold Pl.cmp
 cases Pl.lt a b with
 | true => rfl
 | false =>
  rw [if_neg (by simp)]
  split <;> rfl
theorem firstNZ_nil : firstNZ [] = 0 := rfl
end Go.Proofs.YtlkmccmbpnbgbaaGreat
