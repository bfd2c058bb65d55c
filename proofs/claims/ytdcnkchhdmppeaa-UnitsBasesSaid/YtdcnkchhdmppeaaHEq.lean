/-
  EQUALITY OF WHOLE STRUCTS, by their cells: whatever structs and arrays of ints, texts and bools (a house's things).
-/
import Derived.Test.YtdcnkchhdmppeaaRows
import Derived.WalkKit
import Derived.Laws.StructEq
import Derived.ChangeKeysEq
import Derived.ProofKit
namespace Go.Proofs.Ytdcnkchhdmppeaa
open Go.RowKit

/-- Kinds of cells. -/
inductive CK where
  | i | s | b
def CK.ok : CK → Value → Prop
  | .i, v => ∃ z : Int, v = .int .i64 z
  | .s, v => ∃ d : ByteArray, v = .string d
  | .b, v => ∃ c : Bool, v = .bool c
/-- Cells of these kinds, in this order. -/
def Fits : List CK → List Value → Prop
  | [], [] => True
  | k :: ks, v :: vs => k.ok v ∧ Fits ks vs
  | _, _ => False
theorem Fits.length : ∀ {ks : List CK} {vs : List Value}, Fits ks vs → vs.length = ks.length
  | [], [], _ => rfl
  | _ :: ks, _ :: vs, h => by simp [Fits.length (ks := ks) (vs := vs) h.2]
  | [], _ :: _, h => h.elim
  | _ :: _, [], h => h.elim
theorem Fits.split : ∀ {ks ks' : List CK} {vs : List Value}, Fits (ks ++ ks') vs → Fits ks (vs.take ks.length) ∧ Fits ks' (vs.drop ks.length)
  | [], _, _, h => ⟨trivial, h⟩
  | k :: ks, ks', [], h => h.elim
  | k :: ks, ks', v :: vs, h => by
    have := Fits.split (ks := ks) (ks' := ks') (vs := vs) h.2
    exact ⟨⟨h.1, this.1⟩, this.2⟩

/-- A part's value, of its cells. -/
def valC (agg : Bool) (cs : List Value) : Value := if agg then .agg cs.toArray else cs.headD undef
/-- Two values of the type t, whose cells are of these kinds, are equal just when their cells are. -/
structure EqT (P : Program) (h : Nat) (t : TypeId) (agg : Bool) (ks : List CK) : Prop where
  isagg : ∀ w, (isAgg t).run P w = .ok agg w
  size : ∀ w, (sizeOf t).run P w = .ok ks.length w
  one : agg = false → ks.length = 1
  eq : ∀ (d : Nat) (xs ys : List Value) (w : World), Fits ks xs → Fits ks ys → ∃ b : Bool, (Op.equalIn (d + h) t (valC agg xs) (valC agg ys)).run P w = .ok b w ∧ (b = true ↔ xs = ys)
theorem EqT.mono {P : Program} {h h' : Nat} {t : TypeId} {agg : Bool} {ks : List CK} (e : EqT P h t agg ks) (hh : h ≤ h') : EqT P h' t agg ks :=
  ⟨e.isagg, e.size, e.one, fun d xs ys w hx hy => by
    have := e.eq (d + (h' - h)) xs ys w hx hy
    rwa [show d + (h' - h) + h = d + h' from by omega] at this⟩

section
variable {P : Program}
theorem size_of {t : TypeId} {n : Nat} (h : (P.info? t).map (·.size) = some n) (w : World) : (sizeOf t).run P w = .ok n w := by
  cases hq : P.info? t with
  | none => simp [hq] at h
  | some i =>
    have : i.size = n := by simpa [hq] using h
    simp [sizeOf, typeInfo, hq, this]
theorem agg_of {t : TypeId} {d : TypeDesc} (h : P.underlying t = some d) (w : World) : (isAgg t).run P w = .ok (match d with | .struct _ | .array _ _ => true | _ => false) w := by
  unfold isAgg
  rw [Sem.run_bind, run_underlying h w]
  cases d <;> simp

theorem eq_int {t : TypeId} (h : P.underlying t = some (.int .i64)) (hs : (P.info? t).map (·.size) = some 1) : EqT P 1 t false [.i] where
  isagg := fun w => by simpa using agg_of h w
  size := fun w => size_of hs w
  one := fun _ => rfl
  eq := fun d xs ys w hx hy => by
    match xs, ys, hx, hy with
    | [x], [y], hx, hy =>
      obtain ⟨a, rfl⟩ := hx.1
      obtain ⟨b, rfl⟩ := hy.1
      exact ⟨a == b, run_equalIn_int w d t .i64 .i64 a b h, by simp⟩
theorem eq_bool {t : TypeId} (h : P.underlying t = some .bool) (hs : (P.info? t).map (·.size) = some 1) : EqT P 1 t false [.b] where
  isagg := fun w => by simpa using agg_of h w
  size := fun w => size_of hs w
  one := fun _ => rfl
  eq := fun d xs ys w hx hy => by
    match xs, ys, hx, hy with
    | [x], [y], hx, hy =>
      obtain ⟨a, rfl⟩ := hx.1
      obtain ⟨b, rfl⟩ := hy.1
      exact ⟨a == b, run_equalIn_bool' w d t a b h, by simp⟩
theorem eq_str {t : TypeId} (h : P.underlying t = some .string) (hs : (P.info? t).map (·.size) = some 1) : EqT P 1 t false [.s] where
  isagg := fun w => by simpa using agg_of h w
  size := fun w => size_of hs w
  one := fun _ => rfl
  eq := fun d xs ys w hx hy => by
    match xs, ys, hx, hy with
    | [x], [y], hx, hy =>
      obtain ⟨a, rfl⟩ := hx.1
      obtain ⟨b, rfl⟩ := hy.1
      refine ⟨a.toList == b.toList, run_equalIn_string w d t a b h, ?_⟩
      rw [ByteArray.toList_eq, ByteArray.toList_eq]
      simp
      exact ⟨fun h => ByteArray.ext h, fun h => by rw [h]⟩

theorem part_of {h : Nat} {t : TypeId} {agg : Bool} {ks : List CK} (e : EqT P h t agg ks) (vs : List Value) (o : Nat) (ho : o + ks.length ≤ vs.length) (w : World) : (part t vs.toArray o).run P w = .ok (valC agg ((vs.drop o).take ks.length)) w := by
  unfold part
  rw [Sem.run_bind, e.isagg w]
  cases agg with
  | true =>
    simp [e.size w, valC]
  | false =>
    have h1 := e.one rfl
    have hl : o < vs.length := by omega
    have e2 : (vs.drop o).take 1 = [vs[o]] := by rw [List.drop_eq_getElem_cons hl]; rfl
    rw [h1, e2]
    simp [valC, hl]

/-- The fields, one behind the other, from cell o on. -/
inductive FieldsOk (P : Program) (h : Nat) : List Field → Nat → List CK → Prop
  | nil (o : Nat) : FieldsOk P h [] o []
  | cons {f : Field} {fs : List Field} {o : Nat} {agg : Bool} {ks ks' : List CK} (ho : f.offset = o) (hn : f.name ≠ "_") (hk : 1 ≤ ks.length) (he : EqT P h f.type agg ks) (hr : FieldsOk P h fs (o + ks.length) ks') : FieldsOk P h (f :: fs) o (ks ++ ks')
theorem fields_eq {h : Nat} {fs : List Field} {o : Nat} {ks : List CK} (hf : FieldsOk P h fs o ks) (d : Nat) (xs ys : List Value) (w : World) (hx : Fits ks (xs.drop o)) (hy : Fits ks (ys.drop o)) :
    ∃ b : Bool, (Op.eqFields (d + h) xs.toArray ys.toArray fs).run P w = .ok b w ∧ (b = true ↔ xs.drop o = ys.drop o) := by
  induction hf with
  | nil o =>
    have h1 := hx.length
    have h2 := hy.length
    simp at h1 h2
    refine ⟨true, by simp [Op.eqFields], ?_⟩
    rw [List.drop_of_length_le (by omega), List.drop_of_length_le (by omega)]
    simp
  | @cons f fs o agg ks ks' ho hn hk he hr ih =>
    have lx := hx.length
    have ly := hy.length
    rw [List.length_append, List.length_drop] at lx ly
    have sx := hx.split
    have sy := hy.split
    rw [List.drop_drop] at sx sy
    obtain ⟨b2, e2, i2⟩ := ih sx.2 sy.2
    obtain ⟨b1, e1, i1⟩ := he.eq d _ _ w sx.1 sy.1
    have px := part_of he xs o (by omega) w
    have py := part_of he ys o (by omega) w
    have hcut : ∀ l : List Value, l.drop o = (l.drop o).take ks.length ++ l.drop (o + ks.length) := fun l => by
      rw [← List.drop_drop]; exact (List.take_append_drop _ _).symm
    cases b1 with
    | false =>
      refine ⟨false, ?_, ?_⟩
      · simp only [Op.eqFields, ho, if_pos hn, Sem.run_bind, px, py, Result.andThen_ok, e1]
        simp
      · have : (xs.drop o).take ks.length ≠ (ys.drop o).take ks.length := fun h => by simpa using i1.2 h
        simp
        intro h
        exact this (by rw [h])
    | true =>
      have h1 := i1.1 rfl
      refine ⟨b2, ?_, ?_⟩
      · simp only [Op.eqFields, ho, if_pos hn, Sem.run_bind, px, py, Result.andThen_ok, e1]
        simpa using e2
      · rw [i2]
        constructor
        · intro h2
          rw [hcut xs, hcut ys, h1, h2]
        · intro h2
          rw [← List.drop_drop, ← List.drop_drop, h2]
theorem struct_eq {h : Nat} {t : TypeId} {fs : Array Field} {ks : List CK} (ht : P.underlying t = some (.struct fs)) (hp : P.stoodInHeld t = false) (hs : (P.info? t).map (·.size) = some ks.length) (hf : FieldsOk P h fs.toList 0 ks) : EqT P (h + 1) t true ks where
  isagg := fun w => by simpa using agg_of ht w
  size := fun w => size_of hs w
  one := fun h => by cases h
  eq := fun d xs ys w hx hy => by
    have hfo : P.fieldsOf t = fs := by unfold Program.fieldsOf; rw [ht]
    have := run_equalIn_struct (P := P) w (d + h) t xs.toArray ys.toArray (by rw [hfo]; exact ht) hp
    rw [hfo] at this
    obtain ⟨b, e, i⟩ := fields_eq hf d xs ys w (by simpa using hx) (by simpa using hy)
    exact ⟨b, by rw [← e, ← this]; rfl, by simpa using i⟩

/-! ### arrays -/
def reps (n : Nat) (ks : List CK) : List CK := (List.replicate n ks).flatten
theorem reps_succ (n : Nat) (ks : List CK) : reps (n + 1) ks = ks ++ reps n ks := by simp [reps, List.replicate_succ]
theorem reps_length (n : Nat) (ks : List CK) : (reps n ks).length = n * ks.length := by simp [reps]
theorem reps_split {n : Nat} {ks : List CK} {vs : List Value} (h : Fits (reps (n + 1) ks) vs) : Fits ks (vs.take ks.length) ∧ Fits (reps n ks) (vs.drop ks.length) := by
  rw [reps_succ] at h; exact h.split
theorem items_eq {h : Nat} {elem : TypeId} {agg : Bool} {ks : List CK} (e : EqT P h elem agg ks) (hk : 1 ≤ ks.length) (d : Nat) (xs ys : List Value) (w : World) : ∀ (n i : Nat), Fits (reps n ks) (xs.drop (i * ks.length)) → Fits (reps n ks) (ys.drop (i * ks.length)) →
    ∃ b : Bool, (Op.eqItems (d + h) elem ks.length xs.toArray ys.toArray (List.range' i n)).run P w = .ok b w ∧ (b = true ↔ xs.drop (i * ks.length) = ys.drop (i * ks.length)) := by
  intro n
  induction n with
  | zero =>
    intro i hx hy
    have h1 := hx.length
    have h2 := hy.length
    simp [reps] at h1 h2
    refine ⟨true, by simp [Op.eqItems], ?_⟩
    rw [List.drop_of_length_le (by omega), List.drop_of_length_le (by omega)]
    simp
  | succ n ih =>
    intro i hx hy
    have lx := hx.length
    have ly := hy.length
    rw [reps_succ, List.length_append, List.length_drop] at lx ly
    have sx := reps_split hx
    have sy := reps_split hy
    have hii : i * ks.length + ks.length = (i + 1) * ks.length := (Nat.succ_mul _ _).symm
    rw [List.drop_drop, hii] at sx sy
    obtain ⟨b2, e2, i2⟩ := ih (i + 1) sx.2 sy.2
    obtain ⟨b1, e1, i1⟩ := e.eq d _ _ w sx.1 sy.1
    have px := part_of e xs (i * ks.length) (by omega) w
    have py := part_of e ys (i * ks.length) (by omega) w
    have hcut : ∀ l : List Value, l.drop (i * ks.length) = (l.drop (i * ks.length)).take ks.length ++ l.drop ((i + 1) * ks.length) := fun l => by
      rw [← hii, ← List.drop_drop]; exact (List.take_append_drop _ _).symm
    rw [List.range'_succ]
    cases b1 with
    | false =>
      refine ⟨false, ?_, ?_⟩
      · simp only [Op.eqItems, Sem.run_bind, px, py, Result.andThen_ok, e1]
        simp
      · have : (xs.drop (i * ks.length)).take ks.length ≠ (ys.drop (i * ks.length)).take ks.length := fun h => by simpa using i1.2 h
        simp
        intro h
        exact this (by rw [h])
    | true =>
      have h1 := i1.1 rfl
      refine ⟨b2, ?_, ?_⟩
      · simp only [Op.eqItems, Sem.run_bind, px, py, Result.andThen_ok, e1]
        simpa using e2
      · rw [i2]
        constructor
        · intro h2
          rw [hcut xs, hcut ys, h1, h2]
        · intro h2
          rw [← hii, ← List.drop_drop, ← List.drop_drop, h2]
theorem array_eq {h : Nat} {t elem : TypeId} {n : Nat} {agg : Bool} {ks : List CK} (ht : P.underlying t = some (.array n elem)) (hs : (P.info? t).map (·.size) = some (reps n ks).length) (e : EqT P h elem agg ks) (hk : 1 ≤ ks.length) (hc : P.cellsOf elem = ks.length) : EqT P (h + 1) t true (reps n ks) where
  isagg := fun w => by simpa using agg_of ht w
  size := fun w => size_of hs w
  one := fun h => by cases h
  eq := fun d xs ys w hx hy => by
    cases hq : P.info? elem with
    | none => have := e.size w; simp [sizeOf, typeInfo, hq] at this
    | some i =>
      have := run_equalIn_array (P := P) w (d + h) xs.toArray ys.toArray ht hq
      rw [hc, List.range_eq_range'] at this
      obtain ⟨b, eb, ib⟩ := items_eq e hk d xs ys w n 0 (by simpa using hx) (by simpa using hy)
      exact ⟨b, by rw [← eb, ← this]; rfl, by simpa using ib⟩
/-- The comparison of two structs. -/
theorem neq_struct {h : Nat} {t : TypeId} {ks : List CK} (e : EqT P h t true ks) (hh : h ≤ 10000) (xs ys : List Value) (w : World) (hx : Fits ks xs) (hy : Fits ks ys) : ∃ b : Bool, (binOp .neq t (.agg xs.toArray) (.agg ys.toArray)).run P w = .ok (.bool b) w ∧ (b = false ↔ xs = ys) := by
  obtain ⟨b, eb, ib⟩ := e.eq (10000 - h) xs ys w hx hy
  rw [show 10000 - h + h = 10000 from by omega] at eb
  refine ⟨!b, ?_, by rw [← ib]; cases b <;> simp⟩
  rw [run_neq_struct]
  have : Op.equalIn 10000 t (.agg xs.toArray) (.agg ys.toArray) = Op.equalIn 10000 t (valC true xs) (valC true ys) := rfl
  rw [this, eb]
  rfl
end
end Go.Proofs.Ytdcnkchhdmppeaa
