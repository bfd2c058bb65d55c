/-
 OPENED: arguments that are whole structs, rows of them, by their cells.
 A HOUSE's THINGS as arguments. (By wip/tools/gen_opens.py.)
 (By wip/tools/merge.py.)
-/
import Derived.Test.YtlkmccmbpnbgbaaGreatHA
import Derived.Deep.Slices
import Derived.ChangeArms
import Derived.ChangeSame
import Derived.OpenShut
namespace Go.Proofs.YtlkmccmbpnbgbaaGreat
set_option linter.unusedVariables false
open Go.ChangeShapes Go.WideShapes Go.Deep Go.RowKit

/-- Small enough: what each cell of an argument is. -/
def Mild : Value → Prop
 | .string s => s.size ≤ 9223372036854775807
 | .int k z => (Lit.int k z).wf = true
 | _ => True
theorem Fits.app : ∀ {ks ks' : List CK} {a b : List Value}, Fits ks a → Fits ks' b → Fits (ks ++ ks') (a ++ b)
 | [], _, [], _, _, h => h
 | [], _, _ :: _, _, h, _ => h.elim
 | _ :: _, _, [], _, h, _ => h.elim
 | k :: ks, ks', v :: a, b, h, h' => ⟨h.1, Fits.app (ks := ks) (ks' := ks') (a := a) (b := b) h.2 h'⟩
/-- What an argument of the type t is made of. -/
structure OpT (P : Program) (t : TypeId) (ks : List CK) : Prop where
 size : P.cellsOf t = ks.length
 op : ∀ {H : Type} {enc : TypeId × Value → H} {w : World} {base : Nat} {spare : Nat → Bool} {held : Bool} {fuel : Nat} {cs : List Value} {x : DataW H × List MemPlace},
  DataW.trod enc P w base spare held fuel t cs = some x → Fits ks cs ∧ ∀ v ∈ cs, Mild v

section
variable {P : Program}
theorem op_int {t : TypeId} (h : P.underlying t = some (.int .i64)) (hs : P.cellsOf t = 1) : OpT P t [.i] where
 size := hs
 op := fun hd => by
  obtain ⟨n, rfl, _, hw⟩ := DataW.trod_int h hd
  exact ⟨⟨⟨n, rfl⟩, trivial⟩, fun v hv => by rw [List.mem_singleton] at hv; subst hv; exact hw⟩
theorem op_bool {t : TypeId} (h : P.underlying t = some .bool) (hs : P.cellsOf t = 1) : OpT P t [.b] where
 size := hs
 op := fun hd => by
  obtain ⟨n, rfl, _⟩ := DataW.trod_bool h hd
  exact ⟨⟨⟨n, rfl⟩, trivial⟩, fun _ hv => by rw [List.mem_singleton] at hv; subst hv; trivial⟩
theorem op_str {t : TypeId} (h : P.underlying t = some .string) (hs : P.cellsOf t = 1) : OpT P t [.s] where
 size := hs
 op := fun hd => by
  obtain ⟨n, rfl, _, hw⟩ := DataW.trod_string h hd
  exact ⟨⟨⟨n, rfl⟩, trivial⟩, fun v hv => by rw [List.mem_singleton] at hv; subst hv; simpa [Mild, maxLen] using hw⟩
/-- The fields, one behind the other, from cell o on. -/
inductive FieldsOp (P : Program) : List Field → Nat → List CK → Prop
 | nil (o : Nat) : FieldsOp P [] o []
 | cons {f : Field} {fs : List Field} {o : Nat} {ks ks' : List CK} (ho : f.offset = o) (he : OpT P f.type ks) (hr : FieldsOp P fs (o + ks.length) ks') : FieldsOp P (f :: fs) o (ks ++ ks')
theorem fields_op {fs : List Field} {o : Nat} {ks : List CK} (hf : FieldsOp P fs o ks) {H : Type} {enc : TypeId × Value → H} {w : World} {base : Nat} {spare : Nat → Bool} {held : Bool} {n : Nat} {cs : List Value}
 (hl : cs.length = o + ks.length) (h : ∀ f ∈ fs, ∃ y, DataW.trod enc P w base spare held n f.type ((cs.drop f.offset).take (P.cellsOf f.type)) = some y) : Fits ks (cs.drop o) ∧ ∀ v ∈ cs.drop o, Mild v := by
 induction hf with
 | nil o =>
  rw [List.drop_of_length_le (by simpa using Nat.le_of_eq hl)]
  exact ⟨trivial, fun v hv => by simp at hv⟩
 | @cons f fs o ks ks' ho he hr ih =>
  rw [List.length_append] at hl
  obtain ⟨y, hy⟩ := h f (List.mem_cons_self ..)
  rw [ho, he.size] at hy
  have h1 := he.op hy
  have h2 := ih (by omega) fun f' hf' => h f' (List.mem_cons_of_mem _ hf')
  have hcut : cs.drop o = (cs.drop o).take ks.length ++ cs.drop (o + ks.length) := by
   rw [← List.drop_drop]; exact (List.take_append_drop _ _).symm
  rw [hcut]
  refine ⟨h1.1.app h2.1, fun v hv => ?_⟩
  rcases List.mem_append.1 hv with hv | hv
  · exact h1.2 v hv
  · exact h2.2 v hv
theorem struct_op {t : TypeId} {fs : Array Field} {ks : List CK} (ht : P.underlying t = some (.struct fs)) (hs : P.cellsOf t = ks.length) (hf : FieldsOp P fs.toList 0 ks) : OpT P t ks where
 size := hs
 op := fun hd => by
  obtain ⟨xs, n, _, _, hl, hx, hg⟩ := DataW.trod_struct ht hd
  have := fields_op hf (n := n) (by rw [hl, hs]; omega) fun f hff => by
   obtain ⟨i, hi, rfl⟩ := List.getElem_of_mem hff
   rw [Array.length_toList] at hi
   have hi' : i < xs.length := by omega
   have hfi : fs[i]? = some fs.toList[i] := by rw [Array.getElem?_eq_getElem hi]; rfl
   exact ⟨xs[i], (hg i fs.toList[i] hfi).trans (List.getElem?_eq_getElem hi')⟩
  simpa using this
theorem array_op {t elem : TypeId} {ks : List CK} (n : Nat) (ht : P.underlying t = some (.array n elem)) (hs : P.cellsOf t = (reps n ks).length) (e : OpT P elem ks) : OpT P t (reps n ks) where
 size := hs
 op := fun {H enc w base spare held fuel cs x} hd => by
  obtain ⟨xs, m, _, _, hl, hx, hg⟩ := DataW.trod_array ht hd
  rw [hs, reps_length] at hl
  have key : ∀ (k i : Nat), i + k = n → Fits (reps k ks) (cs.drop (i * ks.length)) ∧ ∀ v ∈ cs.drop (i * ks.length), Mild v := by
   intro k
   induction k with
   | zero =>
    intro i hi
    have : cs.drop (i * ks.length) = [] := List.drop_of_length_le (by rw [hl, ← hi]; exact Nat.le_refl _)
    rw [this]
    exact ⟨trivial, fun v hv => by simp at hv⟩
   | succ k ih =>
    intro i hi
    have hii : i * ks.length + ks.length = (i + 1) * ks.length := (Nat.succ_mul _ _).symm
    have hi' : i < xs.length := by omega
    have h1 := e.op ((hg i (by omega)).trans (List.getElem?_eq_getElem hi'))
    rw [e.size] at h1
    have h2 := ih (i + 1) (by omega)
    have hcut : cs.drop (i * ks.length) = (cs.drop (i * ks.length)).take ks.length ++ cs.drop ((i + 1) * ks.length) := by
     rw [← hii, ← List.drop_drop]; exact (List.take_append_drop _ _).symm
    rw [hcut, reps_succ]
    refine ⟨h1.1.app h2.1, fun v hv => ?_⟩
    rcases List.mem_append.1 hv with hv | hv
    · exact h1.2 v hv
    · exact h2.2 v hv
  simpa using key n 0 (by omega)

/-- A struct by value. -/
theorem struct_in {t : TypeId} {fs : Array Field} {ks : List CK} (ht : P.underlying t = some (.struct fs)) (o : OpT P t ks) {H : Type} {enc : TypeId × Value → H} {W : World} {base b0 : Nat} {r : Reach} {spare : Nat → Bool} {held : Bool} {v : Value} {d : DataW H} {p : List MemPlace}
 (hv : Value.okWide P W r b0 t v) (h : DataW.Trod enc P W base spare held t v d p) : ∃ cs : List Value, v = .agg cs.toArray ∧ Fits ks cs ∧ ∀ u ∈ cs, Mild u := by
 obtain ⟨cs, rfl, _⟩ := okWide_struct ht hv
 obtain ⟨fuel, hf⟩ := h
 have := o.op hf
 exact ⟨cs.toList, rfl, by simpa [Value.cells] using this⟩
/-- A row of structs. -/
theorem row_in {t e : TypeId} {ks : List CK} (ht : P.underlying t = some (.slice e)) (o : OpT P e ks) (hk : 1 ≤ ks.length) {H : Type} {enc : TypeId × Value → H} {W : World} {held : Bool} {fuel : Nat} {cs : List Value} {x : DataW H × List MemPlace}
 (h : DataW.trod enc P W 0 (fun _ => true) held fuel t cs = some x) :
 ∃ (A : Option Addr) (len cap : Nat) (L : List (List Value)), cs = [.slice A len cap] ∧ len = L.length ∧ len ≤ cap ∧ cap ≤ 9223372036854775807 ∧ Things ks L ∧ (∀ e ∈ L, ∀ u ∈ e, Mild u) ∧ Rd W W.heap.size A L.flatten := by
 rcases open_slice ht h with ⟨rfl, _⟩ | ⟨a, len, cap, m, n, D, Pl, rfl, _, hl, hm, hmm, _, hi⟩
 · exact ⟨none, 0, 0, [], rfl, rfl, Nat.le_refl _, by omega, fun e he => by simp at he, fun e he => by simp at he, Rd.none_⟩
 · simp only [if_true] at hmm
   subst hmm
   have hg : ∀ i, ∃ c : List Value, i < m → W.cells? 0 (a.add (i * P.cellsOf e)) (P.cellsOf e) = some c ∧ Fits ks c ∧ ∀ u ∈ c, Mild u := fun i => by
    by_cases hx : i < m
    · obtain ⟨c, h1, h2⟩ := hi i hx
      exact ⟨c, fun _ => ⟨h1, o.op h2⟩⟩
    · exact ⟨[], fun h => absurd h hx⟩
   obtain ⟨f, hf⟩ := Classical.axiomOfChoice hg
   have hlen : ((List.range len).map f).length = len := by simp
   have hth : Things ks ((List.range len).map f) := fun e he => by
    obtain ⟨i, hi, rfl⟩ := List.mem_map.1 he
    exact (hf i (by have := List.mem_range.1 hi; omega)).2.1
   refine ⟨some a, len, m, (List.range len).map f, rfl, hlen.symm, hl, by simpa [maxLen] using hm, hth, fun e he => ?_, fun hpos => ?_⟩
   · obtain ⟨i, hi, rfl⟩ := List.mem_map.1 he
     exact (hf i (by have := List.mem_range.1 hi; omega)).2.2
   · have hfl := flat_length hth.len
     rw [hlen] at hfl
     have h0 : 0 < len := by
      rcases Nat.eq_zero_or_pos len with h | h
      · have : len * ks.length = 0 := by rw [h, Nat.zero_mul]
        omega
      · exact h
     have hat : ∀ i j, i < len → j < ks.length → W.cell? (a.add (i * ks.length + j)) = (f i)[j]? := fun i j hi hj => by
      obtain ⟨h1, h2, _⟩ := hf i (by omega)
      obtain ⟨_, _, h3⟩ := World.cells?_some h1
      have := h3 j (by rw [o.size]; exact hj)
      rw [o.size, Go.Deep.add_add] at this
      exact this
     have hc0 := hat 0 0 h0 hk
     have hfl0 : (f 0).length = ks.length := (hf 0 (by omega)).2.1.length
     rw [List.getElem?_eq_getElem (by omega)] at hc0
     obtain ⟨b, off, spot⟩ := a
     have hspot : spot = none := by simpa [Addr.add] using World.cell?_spot hc0
     subst hspot
     have hb : b < W.heap.size := by have := World.block_lt_of_cell? W _ hc0; simpa [Addr.add] using this
     refine ⟨b, off, rfl, hb, fun j u hu => ?_⟩
     have hj : j < len * ks.length := by rw [← hfl]; exact (List.getElem?_eq_some_iff.1 hu).1
     have hdiv : j / ks.length < len := Nat.div_lt_of_lt_mul (by rw [Nat.mul_comm]; exact hj)
     have hmod : j % ks.length < ks.length := Nat.mod_lt _ (by omega)
     have hjj : j / ks.length * ks.length + j % ks.length = j := by rw [Nat.mul_comm]; exact Nat.div_add_mod _ _
     have h5 := hat _ _ hdiv hmod
     have h6 := flat_at hth.len (j / ks.length) (j % ks.length) (by rw [hlen]; exact hdiv) hmod
     rw [hjj] at h5 h6
     rw [Addr.add_lit] at h5
     rw [h5, ← hu, h6]
     simp
end
end Go.Proofs.YtlkmccmbpnbgbaaGreat

namespace Go.Proofs.YtlkmccmbpnbgbaaGreat
set_option linter.unusedVariables false
open Go.RowKit

theorem opI : OpT Tryz.prog 3 [.i] := op_int Tryz.underlying3 (by kernel_rfl)
theorem opS : OpT Tryz.prog 9 [.s] := op_str Tryz.underlying9 (by kernel_rfl)
theorem opB : OpT Tryz.prog 4 [.b] := op_bool Tryz.underlying4 (by kernel_rfl)
theorem opUnit : OpT Tryz.prog 67 kUnit := by
 refine struct_op (ks := kUnit) Tryz.underlying67 (by kernel_rfl) ?_
 unfold kUnit
 refine FieldsOp.cons (ks := [.s]) (ks' := ([.i] ++ ([] : List CK))) ?_ ?_ ?_
 · rfl
 · exact opS
 refine FieldsOp.cons (ks := [.i]) (ks' := ([] : List CK)) ?_ ?_ ?_
 · rfl
 · exact opI
 exact FieldsOp.nil _
theorem opAUnit : OpT Tryz.prog 68 kUnit4 := array_op 4 Tryz.underlying68 (by kernel_rfl) opUnit
theorem opItem : OpT Tryz.prog 70 kItem := by
 refine struct_op (ks := kItem) Tryz.underlying70 (by kernel_rfl) ?_
 unfold kItem
 refine FieldsOp.cons (ks := [.s]) (ks' := (kUnit4 ++ ([.i] ++ ([.i] ++ ([.b] ++ ([.b] ++ ([.b] ++ ([] : List CK)))))))) ?_ ?_ ?_
 · rfl
 · exact opS
 refine FieldsOp.cons (ks := kUnit4) (ks' := ([.i] ++ ([.i] ++ ([.b] ++ ([.b] ++ ([.b] ++ ([] : List CK))))))) ?_ ?_ ?_
 · rfl
 · exact opAUnit
 refine FieldsOp.cons (ks := [.i]) (ks' := ([.i] ++ ([.b] ++ ([.b] ++ ([.b] ++ ([] : List CK)))))) ?_ ?_ ?_
 · rfl
 · exact opI
 refine FieldsOp.cons (ks := [.i]) (ks' := ([.b] ++ ([.b] ++ ([.b] ++ ([] : List CK))))) ?_ ?_ ?_
 · rfl
 · exact opI
 refine FieldsOp.cons (ks := [.b]) (ks' := ([.b] ++ ([.b] ++ ([] : List CK)))) ?_ ?_ ?_
 · rfl
 · exact opB
 refine FieldsOp.cons (ks := [.b]) (ks' := ([.b] ++ ([] : List CK))) ?_ ?_ ?_
 · rfl
 · exact opB
 refine FieldsOp.cons (ks := [.b]) (ks' := ([] : List CK)) ?_ ?_ ?_
 · rfl
 · exact opB
 exact FieldsOp.nil _
theorem opLot : OpT Tryz.prog 73 kLot := by
 refine struct_op (ks := kLot) Tryz.underlying73 (by kernel_rfl) ?_
 unfold kLot
 refine FieldsOp.cons (ks := [.s]) (ks' := ([.s] ++ ([.i] ++ ([] : List CK)))) ?_ ?_ ?_
 · rfl
 · exact opS
 refine FieldsOp.cons (ks := [.s]) (ks' := ([.i] ++ ([] : List CK))) ?_ ?_ ?_
 · rfl
 · exact opS
 refine FieldsOp.cons (ks := [.i]) (ks' := ([] : List CK)) ?_ ?_ ?_
 · rfl
 · exact opI
 exact FieldsOp.nil _
theorem opZone : OpT Tryz.prog 76 kZone := by
 refine struct_op (ks := kZone) Tryz.underlying76 (by kernel_rfl) ?_
 unfold kZone
 refine FieldsOp.cons (ks := [.s]) (ks' := ([.s] ++ ([] : List CK))) ?_ ?_ ?_
 · rfl
 · exact opS
 refine FieldsOp.cons (ks := [.s]) (ks' := ([] : List CK)) ?_ ?_ ?_
 · rfl
 · exact opS
 exact FieldsOp.nil _
theorem opBin : OpT Tryz.prog 79 kBin := by
 refine struct_op (ks := kBin) Tryz.underlying79 (by kernel_rfl) ?_
 unfold kBin
 refine FieldsOp.cons (ks := [.s]) (ks' := ([.s] ++ ([.i] ++ ([.i] ++ ([.i] ++ ([.i] ++ ([.i] ++ ([.b] ++ ([] : List CK))))))))) ?_ ?_ ?_
 · rfl
 · exact opS
 refine FieldsOp.cons (ks := [.s]) (ks' := ([.i] ++ ([.i] ++ ([.i] ++ ([.i] ++ ([.i] ++ ([.b] ++ ([] : List CK)))))))) ?_ ?_ ?_
 · rfl
 · exact opS
 refine FieldsOp.cons (ks := [.i]) (ks' := ([.i] ++ ([.i] ++ ([.i] ++ ([.i] ++ ([.b] ++ ([] : List CK))))))) ?_ ?_ ?_
 · rfl
 · exact opI
 refine FieldsOp.cons (ks := [.i]) (ks' := ([.i] ++ ([.i] ++ ([.i] ++ ([.b] ++ ([] : List CK)))))) ?_ ?_ ?_
 · rfl
 · exact opI
 refine FieldsOp.cons (ks := [.i]) (ks' := ([.i] ++ ([.i] ++ ([.b] ++ ([] : List CK))))) ?_ ?_ ?_
 · rfl
 · exact opI
 refine FieldsOp.cons (ks := [.i]) (ks' := ([.i] ++ ([.b] ++ ([] : List CK)))) ?_ ?_ ?_
 · rfl
 · exact opI
 refine FieldsOp.cons (ks := [.i]) (ks' := ([.b] ++ ([] : List CK))) ?_ ?_ ?_
 · rfl
 · exact opI
 refine FieldsOp.cons (ks := [.b]) (ks' := ([] : List CK)) ?_ ?_ ?_
 · rfl
 · exact opB
 exact FieldsOp.nil _
theorem opKey : OpT Tryz.prog 44 kKey := by
 refine struct_op (ks := kKey) Tryz.underlying44 (by kernel_rfl) ?_
 unfold kKey
 refine FieldsOp.cons (ks := [.s]) (ks' := ([.s] ++ ([.s] ++ ([.i] ++ ([] : List CK))))) ?_ ?_ ?_
 · rfl
 · exact opS
 refine FieldsOp.cons (ks := [.s]) (ks' := ([.s] ++ ([.i] ++ ([] : List CK)))) ?_ ?_ ?_
 · rfl
 · exact opS
 refine FieldsOp.cons (ks := [.s]) (ks' := ([.i] ++ ([] : List CK))) ?_ ?_ ?_
 · rfl
 · exact opS
 refine FieldsOp.cons (ks := [.i]) (ks' := ([] : List CK)) ?_ ?_ ?_
 · rfl
 · exact opI
 exact FieldsOp.nil _
theorem opQuant : OpT Tryz.prog 62 kQuant := by
 refine struct_op (ks := kQuant) Tryz.underlying62 (by kernel_rfl) ?_
 unfold kQuant
 refine FieldsOp.cons (ks := kKey) (ks' := ([.i] ++ ([.i] ++ ([] : List CK)))) ?_ ?_ ?_
 · rfl
 · exact opKey
 refine FieldsOp.cons (ks := [.i]) (ks' := ([.i] ++ ([] : List CK))) ?_ ?_ ?_
 · rfl
 · exact opI
 refine FieldsOp.cons (ks := [.i]) (ks' := ([] : List CK)) ?_ ?_ ?_
 · rfl
 · exact opI
 exact FieldsOp.nil _
theorem opRule : OpT Tryz.prog 83 kRule := by
 refine struct_op (ks := kRule) Tryz.underlying83 (by kernel_rfl) ?_
 unfold kRule
 refine FieldsOp.cons (ks := [.s]) (ks' := ([.s] ++ ([.i] ++ ([] : List CK)))) ?_ ?_ ?_
 · rfl
 · exact opS
 refine FieldsOp.cons (ks := [.s]) (ks' := ([.i] ++ ([] : List CK))) ?_ ?_ ?_
 · rfl
 · exact opS
 refine FieldsOp.cons (ks := [.i]) (ks' := ([] : List CK)) ?_ ?_ ?_
 · rfl
 · exact opI
 exact FieldsOp.nil _
theorem opLine : OpT Tryz.prog 39 kLine := by
 refine struct_op (ks := kLine) Tryz.underlying39 (by kernel_rfl) ?_
 unfold kLine
 refine FieldsOp.cons (ks := [.s]) (ks' := ([.i] ++ ([.i] ++ ([.i] ++ ([.i] ++ ([.i] ++ ([] : List CK))))))) ?_ ?_ ?_
 · rfl
 · exact opS
 refine FieldsOp.cons (ks := [.i]) (ks' := ([.i] ++ ([.i] ++ ([.i] ++ ([.i] ++ ([] : List CK)))))) ?_ ?_ ?_
 · rfl
 · exact opI
 refine FieldsOp.cons (ks := [.i]) (ks' := ([.i] ++ ([.i] ++ ([.i] ++ ([] : List CK))))) ?_ ?_ ?_
 · rfl
 · exact opI
 refine FieldsOp.cons (ks := [.i]) (ks' := ([.i] ++ ([.i] ++ ([] : List CK)))) ?_ ?_ ?_
 · rfl
 · exact opI
 refine FieldsOp.cons (ks := [.i]) (ks' := ([.i] ++ ([] : List CK))) ?_ ?_ ?_
 · rfl
 · exact opI
 refine FieldsOp.cons (ks := [.i]) (ks' := ([] : List CK)) ?_ ?_ ?_
 · rfl
 · exact opI
 exact FieldsOp.nil _
theorem opALine : OpT Tryz.prog 40 kLine8 := array_op 8 Tryz.underlying40 (by kernel_rfl) opLine
theorem opNotice : OpT Tryz.prog 86 kNotice := by
 refine struct_op (ks := kNotice) Tryz.underlying86 (by kernel_rfl) ?_
 unfold kNotice
 refine FieldsOp.cons (ks := [.s]) (ks' := ([.s] ++ (kLine8 ++ ([.b] ++ ([] : List CK))))) ?_ ?_ ?_
 · rfl
 · exact opS
 refine FieldsOp.cons (ks := [.s]) (ks' := (kLine8 ++ ([.b] ++ ([] : List CK)))) ?_ ?_ ?_
 · rfl
 · exact opS
 refine FieldsOp.cons (ks := kLine8) (ks' := ([.b] ++ ([] : List CK))) ?_ ?_ ?_
 · rfl
 · exact opALine
 refine FieldsOp.cons (ks := [.b]) (ks' := ([] : List CK)) ?_ ?_ ?_
 · rfl
 · exact opB
 exact FieldsOp.nil _
theorem opOrder : OpT Tryz.prog 42 kOrder := by
 refine struct_op (ks := kOrder) Tryz.underlying42 (by kernel_rfl) ?_
 unfold kOrder
 refine FieldsOp.cons (ks := [.s]) (ks' := ([.s] ++ (kLine8 ++ ([] : List CK)))) ?_ ?_ ?_
 · rfl
 · exact opS
 refine FieldsOp.cons (ks := [.s]) (ks' := (kLine8 ++ ([] : List CK))) ?_ ?_ ?_
 · rfl
 · exact opS
 refine FieldsOp.cons (ks := kLine8) (ks' := ([] : List CK)) ?_ ?_ ?_
 · rfl
 · exact opALine
 exact FieldsOp.nil _
theorem opClaim : OpT Tryz.prog 46 kClaim := by
 refine struct_op (ks := kClaim) Tryz.underlying46 (by kernel_rfl) ?_
 unfold kClaim
 refine FieldsOp.cons (ks := [.s]) (ks' := ([.i] ++ (kKey ++ ([.i] ++ ([.i] ++ ([] : List CK)))))) ?_ ?_ ?_
 · rfl
 · exact opS
 refine FieldsOp.cons (ks := [.i]) (ks' := (kKey ++ ([.i] ++ ([.i] ++ ([] : List CK))))) ?_ ?_ ?_
 · rfl
 · exact opI
 refine FieldsOp.cons (ks := kKey) (ks' := ([.i] ++ ([.i] ++ ([] : List CK)))) ?_ ?_ ?_
 · rfl
 · exact opKey
 refine FieldsOp.cons (ks := [.i]) (ks' := ([.i] ++ ([] : List CK))) ?_ ?_ ?_
 · rfl
 · exact opI
 refine FieldsOp.cons (ks := [.i]) (ks' := ([] : List CK)) ?_ ?_ ?_
 · rfl
 · exact opI
 exact FieldsOp.nil _
theorem opTask : OpT Tryz.prog 91 kTask := by
 refine struct_op (ks := kTask) Tryz.underlying91 (by kernel_rfl) ?_
 unfold kTask
 refine FieldsOp.cons (ks := [.i]) (ks' := ([.i] ++ ([.s] ++ ([.i] ++ (kKey ++ ([.s] ++ ([.i] ++ ([.s] ++ ([] : List CK))))))))) ?_ ?_ ?_
 · rfl
 · exact opI
 refine FieldsOp.cons (ks := [.i]) (ks' := ([.s] ++ ([.i] ++ (kKey ++ ([.s] ++ ([.i] ++ ([.s] ++ ([] : List CK)))))))) ?_ ?_ ?_
 · rfl
 · exact opI
 refine FieldsOp.cons (ks := [.s]) (ks' := ([.i] ++ (kKey ++ ([.s] ++ ([.i] ++ ([.s] ++ ([] : List CK))))))) ?_ ?_ ?_
 · rfl
 · exact opS
 refine FieldsOp.cons (ks := [.i]) (ks' := (kKey ++ ([.s] ++ ([.i] ++ ([.s] ++ ([] : List CK)))))) ?_ ?_ ?_
 · rfl
 · exact opI
 refine FieldsOp.cons (ks := kKey) (ks' := ([.s] ++ ([.i] ++ ([.s] ++ ([] : List CK))))) ?_ ?_ ?_
 · rfl
 · exact opKey
 refine FieldsOp.cons (ks := [.s]) (ks' := ([.i] ++ ([.s] ++ ([] : List CK)))) ?_ ?_ ?_
 · rfl
 · exact opS
 refine FieldsOp.cons (ks := [.i]) (ks' := ([.s] ++ ([] : List CK))) ?_ ?_ ?_
 · rfl
 · exact opI
 refine FieldsOp.cons (ks := [.s]) (ks' := ([] : List CK)) ?_ ?_ ?_
 · rfl
 · exact opS
 exact FieldsOp.nil _
theorem opParcel : OpT Tryz.prog 94 kParcel := by
 refine struct_op (ks := kParcel) Tryz.underlying94 (by kernel_rfl) ?_
 unfold kParcel
 refine FieldsOp.cons (ks := [.s]) (ks' := ([.s] ++ ([] : List CK))) ?_ ?_ ?_
 · rfl
 · exact opS
 refine FieldsOp.cons (ks := [.s]) (ks' := ([] : List CK)) ?_ ?_ ?_
 · rfl
 · exact opS
 exact FieldsOp.nil _
theorem opSent : OpT Tryz.prog 97 kSent := by
 refine struct_op (ks := kSent) Tryz.underlying97 (by kernel_rfl) ?_
 unfold kSent
 refine FieldsOp.cons (ks := [.s]) (ks' := ([.s] ++ ([.s] ++ ([.i] ++ ([.i] ++ ([] : List CK)))))) ?_ ?_ ?_
 · rfl
 · exact opS
 refine FieldsOp.cons (ks := [.s]) (ks' := ([.s] ++ ([.i] ++ ([.i] ++ ([] : List CK))))) ?_ ?_ ?_
 · rfl
 · exact opS
 refine FieldsOp.cons (ks := [.s]) (ks' := ([.i] ++ ([.i] ++ ([] : List CK)))) ?_ ?_ ?_
 · rfl
 · exact opS
 refine FieldsOp.cons (ks := [.i]) (ks' := ([.i] ++ ([] : List CK))) ?_ ?_ ?_
 · rfl
 · exact opI
 refine FieldsOp.cons (ks := [.i]) (ks' := ([] : List CK)) ?_ ?_ ?_
 · rfl
 · exact opI
 exact FieldsOp.nil _
theorem opCounted : OpT Tryz.prog 100 kCounted := by
 refine struct_op (ks := kCounted) Tryz.underlying100 (by kernel_rfl) ?_
 unfold kCounted
 refine FieldsOp.cons (ks := kKey) (ks' := ([.i] ++ ([] : List CK))) ?_ ?_ ?_
 · rfl
 · exact opKey
 refine FieldsOp.cons (ks := [.i]) (ks' := ([] : List CK)) ?_ ?_ ?_
 · rfl
 · exact opI
 exact FieldsOp.nil _
theorem opTotal : OpT Tryz.prog 103 kTotal := by
 refine struct_op (ks := kTotal) Tryz.underlying103 (by kernel_rfl) ?_
 unfold kTotal
 refine FieldsOp.cons (ks := [.s]) (ks' := ([.s] ++ ([.i] ++ ([.i] ++ ([.i] ++ ([.i] ++ ([] : List CK))))))) ?_ ?_ ?_
 · rfl
 · exact opS
 refine FieldsOp.cons (ks := [.s]) (ks' := ([.i] ++ ([.i] ++ ([.i] ++ ([.i] ++ ([] : List CK)))))) ?_ ?_ ?_
 · rfl
 · exact opS
 refine FieldsOp.cons (ks := [.i]) (ks' := ([.i] ++ ([.i] ++ ([.i] ++ ([] : List CK))))) ?_ ?_ ?_
 · rfl
 · exact opI
 refine FieldsOp.cons (ks := [.i]) (ks' := ([.i] ++ ([.i] ++ ([] : List CK)))) ?_ ?_ ?_
 · rfl
 · exact opI
 refine FieldsOp.cons (ks := [.i]) (ks' := ([.i] ++ ([] : List CK))) ?_ ?_ ?_
 · rfl
 · exact opI
 refine FieldsOp.cons (ks := [.i]) (ks' := ([] : List CK)) ?_ ?_ ?_
 · rfl
 · exact opI
 exact FieldsOp.nil _
end Go.Proofs.YtlkmccmbpnbgbaaGreat
