/-
 SHORT WORDS: what a frame's put comes to; operations of a drawn region that are taken first. (By wip/tools/squeeze.py.)
 EQUALITY OF WHOLE STRUCTS, by their cells: whatever structs and arrays of ints, texts and bools (a house's things). A HOUSE's THINGS: the kinds of their cells; how '!=' compares them. (By wip/tools/gen_types.py.) WORDS: blocks and cells; what a call may turn ('Only X w w\''); a slice value that reads as a list of cells ('Rd'); append of whatever slice onto an own row. ROWS OF WHOLE STRUCTS: a list of things, each a list of cells; one thing at its place. THE COMPARISON '==' of two structs. A PIECE OF CODE that comes to one end up to a block's number and a value. A DRAWN REGION WHOSE LAST OPERATION (number n) WRITES WHAT THE OTHERS READ: a condition S on the world is shown behind every operation but that one. A DRAWN REGION WHOSE OPERATIONS READ, AND WHOSE CALLEES MAKE MEMORY OF THEIR OWN BUT ANSWER THE SAME IN EVERY WORLD BEHIND: walked once, in the order of the text. A GREAT REGION IN THE ORDER OF THE TEXT: a Bool that is reckoned in one pass, for a region whose operations fill one temporary after the other. MAPS KEYED BY TEXTS, read as functions: 'SM w b n c f': block b of w is a map of at most n entries, of just c; f says what stands at each key. (By wip/tools/merge.py.)
-/
import Derived.Test.YtlkmccmbpnbgbaaGreatRows
import Derived.WalkKit
import Derived.RegionTactic
import Derived.OrdersHeld
import Derived.Deep.RegionHeld
import Derived.Deep.RegionHeld3
import Derived.Laws.StructEq
import Derived.ChangeKeysEq
import Derived.ProofKit
import Derived.WalkSmall
import Derived.Lib.Hide
import Derived.Laws.OwnMore
import Derived.Deep.Draws
import Derived.Maps.AppendAt
import Derived.Laws.AppendOwnNone
import Derived.OwnWalk
import Derived.Below
import Derived.Great.CaseRows
import Derived.Deep.MidRow
import Derived.Laws.CopyRow
import Derived.BigQuiet
import Derived.Maps.OwnSet
import Derived.Maps.OwnOps
import Derived.Maps.Own
namespace Go.Proofs.YtlkmccmbpnbgbaaGreat
set_option linter.unusedVariables false

theorem ax : (∀ (a : Act) (d : Tmp) (v : Value), a.put (some d) v = { a with tmps := a.tmps.setIfInBounds d v }) ∧ (∀ (a : Act) (v : Value), a.put none v = a) ∧
 (∀ (l : List Value) (i : Nat) (v : Value), l.toArray.setIfInBounds i v = (l.set i v).toArray) ∧ (∀ (x v : Value) (l : List Value), (x :: l).set 0 v = v :: l) ∧ (∀ (x v : Value) (l : List Value) (i : Nat), (x :: l).set (i + 1) v = x :: l.set i v) ∧
 (∀ (l : List Oper) (i : Nat) (h : i < l.toArray.size), l.toArray[i]'h = l[i]'(by simpa using h)) ∧ (∀ (x : Oper) (l : List Oper) (h : 0 < (x :: l).length), (x :: l)[0]'h = x) ∧ (∀ (x : Oper) (l : List Oper) (i : Nat) (h : i + 1 < (x :: l).length), (x :: l)[i + 1]'h = l[i]'(by simpa using h)) :=
 ⟨fun _ _ _ => rfl, fun _ _ => rfl, fun l i v => by simp, fun _ _ _ => rfl, fun _ _ _ _ => rfl, fun _ _ _ => by simp, fun _ _ _ => rfl, fun _ _ _ _ => rfl⟩

section
variable {P : Program} {md : Region.Mode} {ops : Array Oper} {Q : Exit → Act → World → Prop} {S : World → Prop} {oi : Oper} {fuel : Nat} {listed : Array Bool} {a : Act} {w : World}
/-- An operation that looks at no memory is taken first. -/
theorem tkA (i : Nat) (v : Value) (hi : ops[i]? = some oi) (h : wpAny P md ops Q fuel (listed.setIfInBounds i true) (a.put oi.dst v) w) (hs : Region.noSelect ops = true := by kernel_rfl) (hf : Region.free md ops listed i = true := by kernel_rfl) (hr : (Region.ready md ops listed).contains i = true := by kernel_rfl)
 (hQ : ∀ c a w, Q (.panic c) (a.put oi.dst v) w → Q (.panic c) a w := by exact fun _ _ _ h => nomatch h.1) (hy : Yields P ops oi v a := by exact .inl ⟨by rfl, fun w => by go_simp⟩) : wpAny P md ops Q (fuel + 1) listed a w := wpAny_take hi hs hf hr hQ hy h
/-- The like, where a place is to be within its bounds. -/
theorem tkO (i : Nat) (v : Value) (hi : ops[i]? = some oi) (h : wpAny P md ops Q fuel (listed.setIfInBounds i true) (a.put oi.dst v) w) (hs : Region.noSelect ops = true := by kernel_rfl) (hf : Region.free md ops listed i = true := by kernel_rfl) (hr : (Region.ready md ops listed).contains i = true := by kernel_rfl)
 (hQ : ∀ c a w, Q (.panic c) (a.put oi.dst v) w → Q (.panic c) a w := by exact fun _ _ _ h => nomatch h.1) (hy : Yields P ops oi v a := by exact .inl ⟨by rfl, fun w => by go_simp <;> (intro h; omega)⟩) : wpAny P md ops Q (fuel + 1) listed a w := wpAny_take hi hs hf hr hQ hy h
/-- The like under a condition on the world, what it yields shown beside. -/
theorem tkY (i : Nat) (v : Value) (hi : ops[i]? = some oi) (hy : YieldsIf P ops S oi v a) (h : wpAnyH P md ops Q S fuel (listed.setIfInBounds i true) (a.put oi.dst v) w) (hs : Region.noSelect ops = true := by kernel_rfl) (hf : Region.free md ops listed i = true := by kernel_rfl) (hr : (Region.ready md ops listed).contains i = true := by kernel_rfl)
 (hQ : ∀ c a w, Q (.panic c) (a.put oi.dst v) w → Q (.panic c) a w := by exact fun _ _ _ h => nomatch h.1) (hS : S w := by assumption) : wpAnyH P md ops Q S (fuel + 1) listed a w := wpAnyH_take hi hs hf hr hQ hy hS h
theorem tkF (i : Nat) (v : Value) (hi : ops[i]? = some oi) (hy : YieldsIf P ops S oi v a) (h : wpAnyH P md ops Q S fuel (listed.setIfInBounds i true) (a.put oi.dst v) w) (hs : Region.noSelect ops = true := by kernel_rfl) (hf : Region.free md ops listed i = true := by kernel_rfl) (hr : (Region.ready md ops listed).contains i = true := by kernel_rfl)
 (hQ : ∀ c a w, Q (.panic c) (a.put oi.dst v) w → Q (.panic c) a w := by exact fun _ _ _ h => h.elim) (hS : S w := by assumption) : wpAnyH P md ops Q S (fuel + 1) listed a w := wpAnyH_take hi hs hf hr hQ hy hS h
theorem tkN (i : Nat) (v : Value) (hi : ops[i]? = some oi) (h : wpAnyH P md ops Q S fuel (listed.setIfInBounds i true) (a.put oi.dst v) w) (hs : Region.noSelect ops = true := by kernel_rfl) (hf : Region.free md ops listed i = true := by kernel_rfl) (hr : (Region.ready md ops listed).contains i = true := by kernel_rfl)
 (hQ : ∀ c a w, Q (.panic c) (a.put oi.dst v) w → Q (.panic c) a w := by exact fun _ _ _ h => nomatch h.1) (hy : YieldsIf P ops S oi v a := by exact .inl ⟨by kernel_rfl, fun w hw => by clear hw; go_simp⟩) (hS : S w := by assumption) : wpAnyH P md ops Q S (fuel + 1) listed a w := wpAnyH_take hi hs hf hr hQ hy hS h
theorem tkE (i : Nat) (v : Value) (hi : ops[i]? = some oi) (h : wpAnyH P md ops Q S fuel (listed.setIfInBounds i true) (a.put oi.dst v) w) (hs : Region.noSelect ops = true := by kernel_rfl) (hf : Region.free md ops listed i = true := by kernel_rfl) (hr : (Region.ready md ops listed).contains i = true := by kernel_rfl)
 (hQ : ∀ c a w, Q (.panic c) (a.put oi.dst v) w → Q (.panic c) a w := by exact fun _ _ _ h => h.elim) (hy : YieldsIf P ops S oi v a := by exact .inl ⟨by kernel_rfl, fun w hw => by clear hw; go_simp⟩) (hS : S w := by assumption) : wpAnyH P md ops Q S (fuel + 1) listed a w := wpAnyH_take hi hs hf hr hQ hy hS h
end
end Go.Proofs.YtlkmccmbpnbgbaaGreat

namespace Go.Proofs.YtlkmccmbpnbgbaaGreat
open Go.RowKit

/-- Kinds of cells. -/
inductive CK where
 | i | s | b
def CK.ok : CK → Value → Prop
 | .i, v => ∃ z : Int, v = .int .i64 z
 | .s, v => ∃ d : ByteArray, v = .string d
 | .b, v => ∃ c : Bool, v = .bool c
/-- Cells of these kinds, in this order. -/
def Fits : List CK → List Value → Prop
 | [], [] => True
 | k :: ks, v :: vs => k.ok v ∧ Fits ks vs
 | _, _ => False
theorem Fits.length : ∀ {ks : List CK} {vs : List Value}, Fits ks vs → vs.length = ks.length
 | [], [], _ => rfl
 | _ :: ks, _ :: vs, h => by simp [Fits.length (ks := ks) (vs := vs) h.2]
 | [], _ :: _, h => h.elim
 | _ :: _, [], h => h.elim
theorem Fits.split : ∀ {ks ks' : List CK} {vs : List Value}, Fits (ks ++ ks') vs → Fits ks (vs.take ks.length) ∧ Fits ks' (vs.drop ks.length)
 | [], _, _, h => ⟨trivial, h⟩
 | k :: ks, ks', [], h => h.elim
 | k :: ks, ks', v :: vs, h => by
  have := Fits.split (ks := ks) (ks' := ks') (vs := vs) h.2
  exact ⟨⟨h.1, this.1⟩, this.2⟩

/-- A part's value, of its cells. -/
def valC (agg : Bool) (cs : List Value) : Value := if agg then .agg cs.toArray else cs.headD undef
/-- Two values of the type t, whose cells are of these kinds, are equal just when their cells are. -/
structure EqT (P : Program) (h : Nat) (t : TypeId) (agg : Bool) (ks : List CK) : Prop where
 isagg : ∀ w, (isAgg t).run P w = .ok agg w
 size : ∀ w, (sizeOf t).run P w = .ok ks.length w
 one : agg = false → ks.length = 1
 eq : ∀ (d : Nat) (xs ys : List Value) (w : World), Fits ks xs → Fits ks ys → ∃ b : Bool, (Op.equalIn (d + h) t (valC agg xs) (valC agg ys)).run P w = .ok b w ∧ (b = true ↔ xs = ys)
theorem EqT.mono {P : Program} {h h' : Nat} {t : TypeId} {agg : Bool} {ks : List CK} (e : EqT P h t agg ks) (hh : h ≤ h') : EqT P h' t agg ks :=
 ⟨e.isagg, e.size, e.one, fun d xs ys w hx hy => by
  have := e.eq (d + (h' - h)) xs ys w hx hy
  rwa [show d + (h' - h) + h = d + h' from by omega] at this⟩

section
variable {P : Program}
theorem size_of {t : TypeId} {n : Nat} (h : (P.info? t).map (·.size) = some n) (w : World) : (sizeOf t).run P w = .ok n w := by
 cases hq : P.info? t with
 | none => simp [hq] at h
 | some i =>
  have : i.size = n := by simpa [hq] using h
  simp [sizeOf, typeInfo, hq, this]
theorem agg_of {t : TypeId} {d : TypeDesc} (h : P.underlying t = some d) (w : World) : (isAgg t).run P w = .ok (match d with | .struct _ | .array _ _ => true | _ => false) w := by
 unfold isAgg
 rw [Sem.run_bind, run_underlying h w]
 cases d <;> simp

theorem eq_int {t : TypeId} (h : P.underlying t = some (.int .i64)) (hs : (P.info? t).map (·.size) = some 1) : EqT P 1 t false [.i] where
 isagg := fun w => by simpa using agg_of h w
 size := fun w => size_of hs w
 one := fun _ => rfl
 eq := fun d xs ys w hx hy => by
  match xs, ys, hx, hy with
  | [x], [y], hx, hy =>
   obtain ⟨a, rfl⟩ := hx.1
   obtain ⟨b, rfl⟩ := hy.1
   exact ⟨a == b, run_equalIn_int w d t .i64 .i64 a b h, by simp⟩
theorem eq_bool {t : TypeId} (h : P.underlying t = some .bool) (hs : (P.info? t).map (·.size) = some 1) : EqT P 1 t false [.b] where
 isagg := fun w => by simpa using agg_of h w
 size := fun w => size_of hs w
 one := fun _ => rfl
 eq := fun d xs ys w hx hy => by
  match xs, ys, hx, hy with
  | [x], [y], hx, hy =>
   obtain ⟨a, rfl⟩ := hx.1
   obtain ⟨b, rfl⟩ := hy.1
   exact ⟨a == b, run_equalIn_bool' w d t a b h, by simp⟩
theorem eq_str {t : TypeId} (h : P.underlying t = some .string) (hs : (P.info? t).map (·.size) = some 1) : EqT P 1 t false [.s] where
 isagg := fun w => by simpa using agg_of h w
 size := fun w => size_of hs w
 one := fun _ => rfl
 eq := fun d xs ys w hx hy => by
  match xs, ys, hx, hy with
  | [x], [y], hx, hy =>
   obtain ⟨a, rfl⟩ := hx.1
   obtain ⟨b, rfl⟩ := hy.1
   refine ⟨a.toList == b.toList, run_equalIn_string w d t a b h, ?_⟩
   rw [ByteArray.toList_eq, ByteArray.toList_eq]
   simp
   exact ⟨fun h => ByteArray.ext h, fun h => by rw [h]⟩

theorem part_of {h : Nat} {t : TypeId} {agg : Bool} {ks : List CK} (e : EqT P h t agg ks) (vs : List Value) (o : Nat) (ho : o + ks.length ≤ vs.length) (w : World) : (part t vs.toArray o).run P w = .ok (valC agg ((vs.drop o).take ks.length)) w := by
 unfold part
 rw [Sem.run_bind, e.isagg w]
 cases agg with
 | true =>
  simp [e.size w, valC]
 | false =>
  have h1 := e.one rfl
  have hl : o < vs.length := by omega
  have e2 : (vs.drop o).take 1 = [vs[o]] := by rw [List.drop_eq_getElem_cons hl]; rfl
  rw [h1, e2]
  simp [valC, hl]

/-- The fields, one behind the other, from cell o on. -/
inductive FieldsOk (P : Program) (h : Nat) : List Field → Nat → List CK → Prop
 | nil (o : Nat) : FieldsOk P h [] o []
 | cons {f : Field} {fs : List Field} {o : Nat} {agg : Bool} {ks ks' : List CK} (ho : f.offset = o) (hn : f.name ≠ "_") (hk : 1 ≤ ks.length) (he : EqT P h f.type agg ks) (hr : FieldsOk P h fs (o + ks.length) ks') : FieldsOk P h (f :: fs) o (ks ++ ks')
theorem fields_eq {h : Nat} {fs : List Field} {o : Nat} {ks : List CK} (hf : FieldsOk P h fs o ks) (d : Nat) (xs ys : List Value) (w : World) (hx : Fits ks (xs.drop o)) (hy : Fits ks (ys.drop o)) :
 ∃ b : Bool, (Op.eqFields (d + h) xs.toArray ys.toArray fs).run P w = .ok b w ∧ (b = true ↔ xs.drop o = ys.drop o) := by
 induction hf with
 | nil o =>
  have h1 := hx.length
  have h2 := hy.length
  simp at h1 h2
  refine ⟨true, by simp [Op.eqFields], ?_⟩
  rw [List.drop_of_length_le (by omega), List.drop_of_length_le (by omega)]
  simp
 | @cons f fs o agg ks ks' ho hn hk he hr ih =>
  have lx := hx.length
  have ly := hy.length
  rw [List.length_append, List.length_drop] at lx ly
  have sx := hx.split
  have sy := hy.split
  rw [List.drop_drop] at sx sy
  obtain ⟨b2, e2, i2⟩ := ih sx.2 sy.2
  obtain ⟨b1, e1, i1⟩ := he.eq d _ _ w sx.1 sy.1
  have px := part_of he xs o (by omega) w
  have py := part_of he ys o (by omega) w
  have hcut : ∀ l : List Value, l.drop o = (l.drop o).take ks.length ++ l.drop (o + ks.length) := fun l => by
   rw [← List.drop_drop]; exact (List.take_append_drop _ _).symm
  cases b1 with
  | false =>
   refine ⟨false, ?_, ?_⟩
   · simp only [Op.eqFields, ho, if_pos hn, Sem.run_bind, px, py, Result.andThen_ok, e1]
     simp
   · have : (xs.drop o).take ks.length ≠ (ys.drop o).take ks.length := fun h => by simpa using i1.2 h
     simp
     intro h
     exact this (by rw [h])
  | true =>
   have h1 := i1.1 rfl
   refine ⟨b2, ?_, ?_⟩
   · simp only [Op.eqFields, ho, if_pos hn, Sem.run_bind, px, py, Result.andThen_ok, e1]
     simpa using e2
   · rw [i2]
     constructor
     · intro h2
       rw [hcut xs, hcut ys, h1, h2]
     · intro h2
       rw [← List.drop_drop, ← List.drop_drop, h2]
theorem struct_eq {h : Nat} {t : TypeId} {fs : Array Field} {ks : List CK} (ht : P.underlying t = some (.struct fs)) (hp : P.stoodInHeld t = false) (hs : (P.info? t).map (·.size) = some ks.length) (hf : FieldsOk P h fs.toList 0 ks) : EqT P (h + 1) t true ks where
 isagg := fun w => by simpa using agg_of ht w
 size := fun w => size_of hs w
 one := fun h => by cases h
 eq := fun d xs ys w hx hy => by
  have hfo : P.fieldsOf t = fs := by unfold Program.fieldsOf; rw [ht]
  have := run_equalIn_struct (P := P) w (d + h) t xs.toArray ys.toArray (by rw [hfo]; exact ht) hp
  rw [hfo] at this
  obtain ⟨b, e, i⟩ := fields_eq hf d xs ys w (by simpa using hx) (by simpa using hy)
  exact ⟨b, by rw [← e, ← this]; rfl, by simpa using i⟩

/-! ### arrays -/
def reps (n : Nat) (ks : List CK) : List CK := (List.replicate n ks).flatten
theorem reps_succ (n : Nat) (ks : List CK) : reps (n + 1) ks = ks ++ reps n ks := by simp [reps, List.replicate_succ]
theorem reps_length (n : Nat) (ks : List CK) : (reps n ks).length = n * ks.length := by simp [reps]
theorem reps_split {n : Nat} {ks : List CK} {vs : List Value} (h : Fits (reps (n + 1) ks) vs) : Fits ks (vs.take ks.length) ∧ Fits (reps n ks) (vs.drop ks.length) := by
 rw [reps_succ] at h; exact h.split
theorem items_eq {h : Nat} {elem : TypeId} {agg : Bool} {ks : List CK} (e : EqT P h elem agg ks) (hk : 1 ≤ ks.length) (d : Nat) (xs ys : List Value) (w : World) : ∀ (n i : Nat), Fits (reps n ks) (xs.drop (i * ks.length)) → Fits (reps n ks) (ys.drop (i * ks.length)) →
 ∃ b : Bool, (Op.eqItems (d + h) elem ks.length xs.toArray ys.toArray (List.range' i n)).run P w = .ok b w ∧ (b = true ↔ xs.drop (i * ks.length) = ys.drop (i * ks.length)) := by
 intro n
 induction n with
 | zero =>
  intro i hx hy
  have h1 := hx.length
  have h2 := hy.length
  simp [reps] at h1 h2
  refine ⟨true, by simp [Op.eqItems], ?_⟩
  rw [List.drop_of_length_le (by omega), List.drop_of_length_le (by omega)]
  simp
 | succ n ih =>
  intro i hx hy
  have lx := hx.length
  have ly := hy.length
  rw [reps_succ, List.length_append, List.length_drop] at lx ly
  have sx := reps_split hx
  have sy := reps_split hy
  have hii : i * ks.length + ks.length = (i + 1) * ks.length := (Nat.succ_mul _ _).symm
  rw [List.drop_drop, hii] at sx sy
  obtain ⟨b2, e2, i2⟩ := ih (i + 1) sx.2 sy.2
  obtain ⟨b1, e1, i1⟩ := e.eq d _ _ w sx.1 sy.1
  have px := part_of e xs (i * ks.length) (by omega) w
  have py := part_of e ys (i * ks.length) (by omega) w
  have hcut : ∀ l : List Value, l.drop (i * ks.length) = (l.drop (i * ks.length)).take ks.length ++ l.drop ((i + 1) * ks.length) := fun l => by
   rw [← hii, ← List.drop_drop]; exact (List.take_append_drop _ _).symm
  rw [List.range'_succ]
  cases b1 with
  | false =>
   refine ⟨false, ?_, ?_⟩
   · simp only [Op.eqItems, Sem.run_bind, px, py, Result.andThen_ok, e1]
     simp
   · have : (xs.drop (i * ks.length)).take ks.length ≠ (ys.drop (i * ks.length)).take ks.length := fun h => by simpa using i1.2 h
     simp
     intro h
     exact this (by rw [h])
  | true =>
   have h1 := i1.1 rfl
   refine ⟨b2, ?_, ?_⟩
   · simp only [Op.eqItems, Sem.run_bind, px, py, Result.andThen_ok, e1]
     simpa using e2
   · rw [i2]
     constructor
     · intro h2
       rw [hcut xs, hcut ys, h1, h2]
     · intro h2
       rw [← hii, ← List.drop_drop, ← List.drop_drop, h2]
theorem array_eq {h : Nat} {t elem : TypeId} {n : Nat} {agg : Bool} {ks : List CK} (ht : P.underlying t = some (.array n elem)) (hs : (P.info? t).map (·.size) = some (reps n ks).length) (e : EqT P h elem agg ks) (hk : 1 ≤ ks.length) (hc : P.cellsOf elem = ks.length) : EqT P (h + 1) t true (reps n ks) where
 isagg := fun w => by simpa using agg_of ht w
 size := fun w => size_of hs w
 one := fun h => by cases h
 eq := fun d xs ys w hx hy => by
  cases hq : P.info? elem with
  | none => have := e.size w; simp [sizeOf, typeInfo, hq] at this
  | some i =>
   have := run_equalIn_array (P := P) w (d + h) xs.toArray ys.toArray ht hq
   rw [hc, List.range_eq_range'] at this
   obtain ⟨b, eb, ib⟩ := items_eq e hk d xs ys w n 0 (by simpa using hx) (by simpa using hy)
   exact ⟨b, by rw [← eb, ← this]; rfl, by simpa using ib⟩
/-- The comparison of two structs. -/
theorem neq_struct {h : Nat} {t : TypeId} {ks : List CK} (e : EqT P h t true ks) (hh : h ≤ 10000) (xs ys : List Value) (w : World) (hx : Fits ks xs) (hy : Fits ks ys) : ∃ b : Bool, (binOp .neq t (.agg xs.toArray) (.agg ys.toArray)).run P w = .ok (.bool b) w ∧ (b = false ↔ xs = ys) := by
 obtain ⟨b, eb, ib⟩ := e.eq (10000 - h) xs ys w hx hy
 rw [show 10000 - h + h = 10000 from by omega] at eb
 refine ⟨!b, ?_, by rw [← ib]; cases b <;> simp⟩
 rw [run_neq_struct]
 have : Op.equalIn 10000 t (.agg xs.toArray) (.agg ys.toArray) = Op.equalIn 10000 t (valC true xs) (valC true ys) := rfl
 rw [this, eb]
 rfl
end
end Go.Proofs.YtlkmccmbpnbgbaaGreat

namespace Go.Proofs.YtlkmccmbpnbgbaaGreat
open Go.RowKit

theorem eqI : EqT Tryz.prog 1 3 false [.i] := eq_int Tryz.underlying3 (by kernel_rfl)
theorem eqS : EqT Tryz.prog 1 9 false [.s] := eq_str Tryz.underlying9 (by kernel_rfl)
theorem eqB : EqT Tryz.prog 1 4 false [.b] := eq_bool Tryz.underlying4 (by kernel_rfl)
def kUnit : List CK := ([.s] ++ ([.i] ++ ([] : List CK)))
theorem eqUnit : EqT Tryz.prog 2 67 true kUnit := by
 refine struct_eq (h := 1) (ks := kUnit) Tryz.underlying67 (by kernel_rfl) (by kernel_rfl) ?_
 unfold kUnit
 refine FieldsOk.cons (agg := false) (ks := [.s]) (ks' := ([.i] ++ ([] : List CK))) ?_ ?_ ?_ ?_ ?_
 · rfl
 · decide
 · decide
 · exact eqS.mono (by decide)
 refine FieldsOk.cons (agg := false) (ks := [.i]) (ks' := ([] : List CK)) ?_ ?_ ?_ ?_ ?_
 · rfl
 · decide
 · decide
 · exact eqI.mono (by decide)
 exact FieldsOk.nil _
def kUnit4 : List CK := reps 4 kUnit
theorem eqAUnit : EqT Tryz.prog 3 68 true kUnit4 := array_eq Tryz.underlying68 (by kernel_rfl) eqUnit (by decide) (by kernel_rfl)
def kItem : List CK := ([.s] ++ (kUnit4 ++ ([.i] ++ ([.i] ++ ([.b] ++ ([.b] ++ ([.b] ++ ([] : List CK))))))))
theorem eqItem : EqT Tryz.prog 4 70 true kItem := by
 refine struct_eq (h := 3) (ks := kItem) Tryz.underlying70 (by kernel_rfl) (by kernel_rfl) ?_
 unfold kItem
 refine FieldsOk.cons (agg := false) (ks := [.s]) (ks' := (kUnit4 ++ ([.i] ++ ([.i] ++ ([.b] ++ ([.b] ++ ([.b] ++ ([] : List CK)))))))) ?_ ?_ ?_ ?_ ?_
 · rfl
 · decide
 · decide
 · exact eqS.mono (by decide)
 refine FieldsOk.cons (agg := true) (ks := kUnit4) (ks' := ([.i] ++ ([.i] ++ ([.b] ++ ([.b] ++ ([.b] ++ ([] : List CK))))))) ?_ ?_ ?_ ?_ ?_
 · rfl
 · decide
 · decide
 · exact eqAUnit.mono (by decide)
 refine FieldsOk.cons (agg := false) (ks := [.i]) (ks' := ([.i] ++ ([.b] ++ ([.b] ++ ([.b] ++ ([] : List CK)))))) ?_ ?_ ?_ ?_ ?_
 · rfl
 · decide
 · decide
 · exact eqI.mono (by decide)
 refine FieldsOk.cons (agg := false) (ks := [.i]) (ks' := ([.b] ++ ([.b] ++ ([.b] ++ ([] : List CK))))) ?_ ?_ ?_ ?_ ?_
 · rfl
 · decide
 · decide
 · exact eqI.mono (by decide)
 refine FieldsOk.cons (agg := false) (ks := [.b]) (ks' := ([.b] ++ ([.b] ++ ([] : List CK)))) ?_ ?_ ?_ ?_ ?_
 · rfl
 · decide
 · decide
 · exact eqB.mono (by decide)
 refine FieldsOk.cons (agg := false) (ks := [.b]) (ks' := ([.b] ++ ([] : List CK))) ?_ ?_ ?_ ?_ ?_
 · rfl
 · decide
 · decide
 · exact eqB.mono (by decide)
 refine FieldsOk.cons (agg := false) (ks := [.b]) (ks' := ([] : List CK)) ?_ ?_ ?_ ?_ ?_
 · rfl
 · decide
 · decide
 · exact eqB.mono (by decide)
 exact FieldsOk.nil _
def kLot : List CK := ([.s] ++ ([.s] ++ ([.i] ++ ([] : List CK))))
theorem eqLot : EqT Tryz.prog 2 73 true kLot := by
 refine struct_eq (h := 1) (ks := kLot) Tryz.underlying73 (by kernel_rfl) (by kernel_rfl) ?_
 unfold kLot
 refine FieldsOk.cons (agg := false) (ks := [.s]) (ks' := ([.s] ++ ([.i] ++ ([] : List CK)))) ?_ ?_ ?_ ?_ ?_
 · rfl
 · decide
 · decide
 · exact eqS.mono (by decide)
 refine FieldsOk.cons (agg := false) (ks := [.s]) (ks' := ([.i] ++ ([] : List CK))) ?_ ?_ ?_ ?_ ?_
 · rfl
 · decide
 · decide
 · exact eqS.mono (by decide)
 refine FieldsOk.cons (agg := false) (ks := [.i]) (ks' := ([] : List CK)) ?_ ?_ ?_ ?_ ?_
 · rfl
 · decide
 · decide
 · exact eqI.mono (by decide)
 exact FieldsOk.nil _
def kZone : List CK := ([.s] ++ ([.s] ++ ([] : List CK)))
theorem eqZone : EqT Tryz.prog 2 76 true kZone := by
 refine struct_eq (h := 1) (ks := kZone) Tryz.underlying76 (by kernel_rfl) (by kernel_rfl) ?_
 unfold kZone
 refine FieldsOk.cons (agg := false) (ks := [.s]) (ks' := ([.s] ++ ([] : List CK))) ?_ ?_ ?_ ?_ ?_
 · rfl
 · decide
 · decide
 · exact eqS.mono (by decide)
 refine FieldsOk.cons (agg := false) (ks := [.s]) (ks' := ([] : List CK)) ?_ ?_ ?_ ?_ ?_
 · rfl
 · decide
 · decide
 · exact eqS.mono (by decide)
 exact FieldsOk.nil _
def kBin : List CK := ([.s] ++ ([.s] ++ ([.i] ++ ([.i] ++ ([.i] ++ ([.i] ++ ([.i] ++ ([.b] ++ ([] : List CK)))))))))
theorem eqBin : EqT Tryz.prog 2 79 true kBin := by
 refine struct_eq (h := 1) (ks := kBin) Tryz.underlying79 (by kernel_rfl) (by kernel_rfl) ?_
 unfold kBin
 refine FieldsOk.cons (agg := false) (ks := [.s]) (ks' := ([.s] ++ ([.i] ++ ([.i] ++ ([.i] ++ ([.i] ++ ([.i] ++ ([.b] ++ ([] : List CK))))))))) ?_ ?_ ?_ ?_ ?_
 · rfl
 · decide
 · decide
 · exact eqS.mono (by decide)
 refine FieldsOk.cons (agg := false) (ks := [.s]) (ks' := ([.i] ++ ([.i] ++ ([.i] ++ ([.i] ++ ([.i] ++ ([.b] ++ ([] : List CK)))))))) ?_ ?_ ?_ ?_ ?_
 · rfl
 · decide
 · decide
 · exact eqS.mono (by decide)
 refine FieldsOk.cons (agg := false) (ks := [.i]) (ks' := ([.i] ++ ([.i] ++ ([.i] ++ ([.i] ++ ([.b] ++ ([] : List CK))))))) ?_ ?_ ?_ ?_ ?_
 · rfl
 · decide
 · decide
 · exact eqI.mono (by decide)
 refine FieldsOk.cons (agg := false) (ks := [.i]) (ks' := ([.i] ++ ([.i] ++ ([.i] ++ ([.b] ++ ([] : List CK)))))) ?_ ?_ ?_ ?_ ?_
 · rfl
 · decide
 · decide
 · exact eqI.mono (by decide)
 refine FieldsOk.cons (agg := false) (ks := [.i]) (ks' := ([.i] ++ ([.i] ++ ([.b] ++ ([] : List CK))))) ?_ ?_ ?_ ?_ ?_
 · rfl
 · decide
 · decide
 · exact eqI.mono (by decide)
 refine FieldsOk.cons (agg := false) (ks := [.i]) (ks' := ([.i] ++ ([.b] ++ ([] : List CK)))) ?_ ?_ ?_ ?_ ?_
 · rfl
 · decide
 · decide
 · exact eqI.mono (by decide)
 refine FieldsOk.cons (agg := false) (ks := [.i]) (ks' := ([.b] ++ ([] : List CK))) ?_ ?_ ?_ ?_ ?_
 · rfl
 · decide
 · decide
 · exact eqI.mono (by decide)
 refine FieldsOk.cons (agg := false) (ks := [.b]) (ks' := ([] : List CK)) ?_ ?_ ?_ ?_ ?_
 · rfl
 · decide
 · decide
 · exact eqB.mono (by decide)
 exact FieldsOk.nil _
def kKey : List CK := ([.s] ++ ([.s] ++ ([.s] ++ ([.i] ++ ([] : List CK)))))
theorem eqKey : EqT Tryz.prog 2 44 true kKey := by
 refine struct_eq (h := 1) (ks := kKey) Tryz.underlying44 (by kernel_rfl) (by kernel_rfl) ?_
 unfold kKey
 refine FieldsOk.cons (agg := false) (ks := [.s]) (ks' := ([.s] ++ ([.s] ++ ([.i] ++ ([] : List CK))))) ?_ ?_ ?_ ?_ ?_
 · rfl
 · decide
 · decide
 · exact eqS.mono (by decide)
 refine FieldsOk.cons (agg := false) (ks := [.s]) (ks' := ([.s] ++ ([.i] ++ ([] : List CK)))) ?_ ?_ ?_ ?_ ?_
 · rfl
 · decide
 · decide
 · exact eqS.mono (by decide)
 refine FieldsOk.cons (agg := false) (ks := [.s]) (ks' := ([.i] ++ ([] : List CK))) ?_ ?_ ?_ ?_ ?_
 · rfl
 · decide
 · decide
 · exact eqS.mono (by decide)
 refine FieldsOk.cons (agg := false) (ks := [.i]) (ks' := ([] : List CK)) ?_ ?_ ?_ ?_ ?_
 · rfl
 · decide
 · decide
 · exact eqI.mono (by decide)
 exact FieldsOk.nil _
def kQuant : List CK := (kKey ++ ([.i] ++ ([.i] ++ ([] : List CK))))
theorem eqQuant : EqT Tryz.prog 3 62 true kQuant := by
 refine struct_eq (h := 2) (ks := kQuant) Tryz.underlying62 (by kernel_rfl) (by kernel_rfl) ?_
 unfold kQuant
 refine FieldsOk.cons (agg := true) (ks := kKey) (ks' := ([.i] ++ ([.i] ++ ([] : List CK)))) ?_ ?_ ?_ ?_ ?_
 · rfl
 · decide
 · decide
 · exact eqKey.mono (by decide)
 refine FieldsOk.cons (agg := false) (ks := [.i]) (ks' := ([.i] ++ ([] : List CK))) ?_ ?_ ?_ ?_ ?_
 · rfl
 · decide
 · decide
 · exact eqI.mono (by decide)
 refine FieldsOk.cons (agg := false) (ks := [.i]) (ks' := ([] : List CK)) ?_ ?_ ?_ ?_ ?_
 · rfl
 · decide
 · decide
 · exact eqI.mono (by decide)
 exact FieldsOk.nil _
def kRule : List CK := ([.s] ++ ([.s] ++ ([.i] ++ ([] : List CK))))
theorem eqRule : EqT Tryz.prog 2 83 true kRule := by
 refine struct_eq (h := 1) (ks := kRule) Tryz.underlying83 (by kernel_rfl) (by kernel_rfl) ?_
 unfold kRule
 refine FieldsOk.cons (agg := false) (ks := [.s]) (ks' := ([.s] ++ ([.i] ++ ([] : List CK)))) ?_ ?_ ?_ ?_ ?_
 · rfl
 · decide
 · decide
 · exact eqS.mono (by decide)
 refine FieldsOk.cons (agg := false) (ks := [.s]) (ks' := ([.i] ++ ([] : List CK))) ?_ ?_ ?_ ?_ ?_
 · rfl
 · decide
 · decide
 · exact eqS.mono (by decide)
 refine FieldsOk.cons (agg := false) (ks := [.i]) (ks' := ([] : List CK)) ?_ ?_ ?_ ?_ ?_
 · rfl
 · decide
 · decide
 · exact eqI.mono (by decide)
 exact FieldsOk.nil _
def kLine : List CK := ([.s] ++ ([.i] ++ ([.i] ++ ([.i] ++ ([.i] ++ ([.i] ++ ([] : List CK)))))))
theorem eqLine : EqT Tryz.prog 2 39 true kLine := by
 refine struct_eq (h := 1) (ks := kLine) Tryz.underlying39 (by kernel_rfl) (by kernel_rfl) ?_
 unfold kLine
 refine FieldsOk.cons (agg := false) (ks := [.s]) (ks' := ([.i] ++ ([.i] ++ ([.i] ++ ([.i] ++ ([.i] ++ ([] : List CK))))))) ?_ ?_ ?_ ?_ ?_
 · rfl
 · decide
 · decide
 · exact eqS.mono (by decide)
 refine FieldsOk.cons (agg := false) (ks := [.i]) (ks' := ([.i] ++ ([.i] ++ ([.i] ++ ([.i] ++ ([] : List CK)))))) ?_ ?_ ?_ ?_ ?_
 · rfl
 · decide
 · decide
 · exact eqI.mono (by decide)
 refine FieldsOk.cons (agg := false) (ks := [.i]) (ks' := ([.i] ++ ([.i] ++ ([.i] ++ ([] : List CK))))) ?_ ?_ ?_ ?_ ?_
 · rfl
 · decide
 · decide
 · exact eqI.mono (by decide)
 refine FieldsOk.cons (agg := false) (ks := [.i]) (ks' := ([.i] ++ ([.i] ++ ([] : List CK)))) ?_ ?_ ?_ ?_ ?_
 · rfl
 · decide
 · decide
 · exact eqI.mono (by decide)
 refine FieldsOk.cons (agg := false) (ks := [.i]) (ks' := ([.i] ++ ([] : List CK))) ?_ ?_ ?_ ?_ ?_
 · rfl
 · decide
 · decide
 · exact eqI.mono (by decide)
 refine FieldsOk.cons (agg := false) (ks := [.i]) (ks' := ([] : List CK)) ?_ ?_ ?_ ?_ ?_
 · rfl
 · decide
 · decide
 · exact eqI.mono (by decide)
 exact FieldsOk.nil _
def kLine8 : List CK := reps 8 kLine
theorem eqALine : EqT Tryz.prog 3 40 true kLine8 := array_eq Tryz.underlying40 (by kernel_rfl) eqLine (by decide) (by kernel_rfl)
def kNotice : List CK := ([.s] ++ ([.s] ++ (kLine8 ++ ([.b] ++ ([] : List CK)))))
theorem eqNotice : EqT Tryz.prog 4 86 true kNotice := by
 refine struct_eq (h := 3) (ks := kNotice) Tryz.underlying86 (by kernel_rfl) (by kernel_rfl) ?_
 unfold kNotice
 refine FieldsOk.cons (agg := false) (ks := [.s]) (ks' := ([.s] ++ (kLine8 ++ ([.b] ++ ([] : List CK))))) ?_ ?_ ?_ ?_ ?_
 · rfl
 · decide
 · decide
 · exact eqS.mono (by decide)
 refine FieldsOk.cons (agg := false) (ks := [.s]) (ks' := (kLine8 ++ ([.b] ++ ([] : List CK)))) ?_ ?_ ?_ ?_ ?_
 · rfl
 · decide
 · decide
 · exact eqS.mono (by decide)
 refine FieldsOk.cons (agg := true) (ks := kLine8) (ks' := ([.b] ++ ([] : List CK))) ?_ ?_ ?_ ?_ ?_
 · rfl
 · decide
 · decide
 · exact eqALine.mono (by decide)
 refine FieldsOk.cons (agg := false) (ks := [.b]) (ks' := ([] : List CK)) ?_ ?_ ?_ ?_ ?_
 · rfl
 · decide
 · decide
 · exact eqB.mono (by decide)
 exact FieldsOk.nil _
def kOrder : List CK := ([.s] ++ ([.s] ++ (kLine8 ++ ([] : List CK))))
theorem eqOrder : EqT Tryz.prog 4 42 true kOrder := by
 refine struct_eq (h := 3) (ks := kOrder) Tryz.underlying42 (by kernel_rfl) (by kernel_rfl) ?_
 unfold kOrder
 refine FieldsOk.cons (agg := false) (ks := [.s]) (ks' := ([.s] ++ (kLine8 ++ ([] : List CK)))) ?_ ?_ ?_ ?_ ?_
 · rfl
 · decide
 · decide
 · exact eqS.mono (by decide)
 refine FieldsOk.cons (agg := false) (ks := [.s]) (ks' := (kLine8 ++ ([] : List CK))) ?_ ?_ ?_ ?_ ?_
 · rfl
 · decide
 · decide
 · exact eqS.mono (by decide)
 refine FieldsOk.cons (agg := true) (ks := kLine8) (ks' := ([] : List CK)) ?_ ?_ ?_ ?_ ?_
 · rfl
 · decide
 · decide
 · exact eqALine.mono (by decide)
 exact FieldsOk.nil _
def kClaim : List CK := ([.s] ++ ([.i] ++ (kKey ++ ([.i] ++ ([.i] ++ ([] : List CK))))))
theorem eqClaim : EqT Tryz.prog 3 46 true kClaim := by
 refine struct_eq (h := 2) (ks := kClaim) Tryz.underlying46 (by kernel_rfl) (by kernel_rfl) ?_
 unfold kClaim
 refine FieldsOk.cons (agg := false) (ks := [.s]) (ks' := ([.i] ++ (kKey ++ ([.i] ++ ([.i] ++ ([] : List CK)))))) ?_ ?_ ?_ ?_ ?_
 · rfl
 · decide
 · decide
 · exact eqS.mono (by decide)
 refine FieldsOk.cons (agg := false) (ks := [.i]) (ks' := (kKey ++ ([.i] ++ ([.i] ++ ([] : List CK))))) ?_ ?_ ?_ ?_ ?_
 · rfl
 · decide
 · decide
 · exact eqI.mono (by decide)
 refine FieldsOk.cons (agg := true) (ks := kKey) (ks' := ([.i] ++ ([.i] ++ ([] : List CK)))) ?_ ?_ ?_ ?_ ?_
 · rfl
 · decide
 · decide
 · exact eqKey.mono (by decide)
 refine FieldsOk.cons (agg := false) (ks := [.i]) (ks' := ([.i] ++ ([] : List CK))) ?_ ?_ ?_ ?_ ?_
 · rfl
 · decide
 · decide
 · exact eqI.mono (by decide)
 refine FieldsOk.cons (agg := false) (ks := [.i]) (ks' := ([] : List CK)) ?_ ?_ ?_ ?_ ?_
 · rfl
 · decide
 · decide
 · exact eqI.mono (by decide)
 exact FieldsOk.nil _
def kTask : List CK := ([.i] ++ ([.i] ++ ([.s] ++ ([.i] ++ (kKey ++ ([.s] ++ ([.i] ++ ([.s] ++ ([] : List CK)))))))))
theorem eqTask : EqT Tryz.prog 3 91 true kTask := by
 refine struct_eq (h := 2) (ks := kTask) Tryz.underlying91 (by kernel_rfl) (by kernel_rfl) ?_
 unfold kTask
 refine FieldsOk.cons (agg := false) (ks := [.i]) (ks' := ([.i] ++ ([.s] ++ ([.i] ++ (kKey ++ ([.s] ++ ([.i] ++ ([.s] ++ ([] : List CK))))))))) ?_ ?_ ?_ ?_ ?_
 · rfl
 · decide
 · decide
 · exact eqI.mono (by decide)
 refine FieldsOk.cons (agg := false) (ks := [.i]) (ks' := ([.s] ++ ([.i] ++ (kKey ++ ([.s] ++ ([.i] ++ ([.s] ++ ([] : List CK)))))))) ?_ ?_ ?_ ?_ ?_
 · rfl
 · decide
 · decide
 · exact eqI.mono (by decide)
 refine FieldsOk.cons (agg := false) (ks := [.s]) (ks' := ([.i] ++ (kKey ++ ([.s] ++ ([.i] ++ ([.s] ++ ([] : List CK))))))) ?_ ?_ ?_ ?_ ?_
 · rfl
 · decide
 · decide
 · exact eqS.mono (by decide)
 refine FieldsOk.cons (agg := false) (ks := [.i]) (ks' := (kKey ++ ([.s] ++ ([.i] ++ ([.s] ++ ([] : List CK)))))) ?_ ?_ ?_ ?_ ?_
 · rfl
 · decide
 · decide
 · exact eqI.mono (by decide)
 refine FieldsOk.cons (agg := true) (ks := kKey) (ks' := ([.s] ++ ([.i] ++ ([.s] ++ ([] : List CK))))) ?_ ?_ ?_ ?_ ?_
 · rfl
 · decide
 · decide
 · exact eqKey.mono (by decide)
 refine FieldsOk.cons (agg := false) (ks := [.s]) (ks' := ([.i] ++ ([.s] ++ ([] : List CK)))) ?_ ?_ ?_ ?_ ?_
 · rfl
 · decide
 · decide
 · exact eqS.mono (by decide)
 refine FieldsOk.cons (agg := false) (ks := [.i]) (ks' := ([.s] ++ ([] : List CK))) ?_ ?_ ?_ ?_ ?_
 · rfl
 · decide
 · decide
 · exact eqI.mono (by decide)
 refine FieldsOk.cons (agg := false) (ks := [.s]) (ks' := ([] : List CK)) ?_ ?_ ?_ ?_ ?_
 · rfl
 · decide
 · decide
 · exact eqS.mono (by decide)
 exact FieldsOk.nil _
def kParcel : List CK := ([.s] ++ ([.s] ++ ([] : List CK)))
theorem eqParcel : EqT Tryz.prog 2 94 true kParcel := by
 refine struct_eq (h := 1) (ks := kParcel) Tryz.underlying94 (by kernel_rfl) (by kernel_rfl) ?_
 unfold kParcel
 refine FieldsOk.cons (agg := false) (ks := [.s]) (ks' := ([.s] ++ ([] : List CK))) ?_ ?_ ?_ ?_ ?_
 · rfl
 · decide
 · decide
 · exact eqS.mono (by decide)
 refine FieldsOk.cons (agg := false) (ks := [.s]) (ks' := ([] : List CK)) ?_ ?_ ?_ ?_ ?_
 · rfl
 · decide
 · decide
 · exact eqS.mono (by decide)
 exact FieldsOk.nil _
def kSent : List CK := ([.s] ++ ([.s] ++ ([.s] ++ ([.i] ++ ([.i] ++ ([] : List CK))))))
theorem eqSent : EqT Tryz.prog 2 97 true kSent := by
 refine struct_eq (h := 1) (ks := kSent) Tryz.underlying97 (by kernel_rfl) (by kernel_rfl) ?_
 unfold kSent
 refine FieldsOk.cons (agg := false) (ks := [.s]) (ks' := ([.s] ++ ([.s] ++ ([.i] ++ ([.i] ++ ([] : List CK)))))) ?_ ?_ ?_ ?_ ?_
 · rfl
 · decide
 · decide
 · exact eqS.mono (by decide)
 refine FieldsOk.cons (agg := false) (ks := [.s]) (ks' := ([.s] ++ ([.i] ++ ([.i] ++ ([] : List CK))))) ?_ ?_ ?_ ?_ ?_
 · rfl
 · decide
 · decide
 · exact eqS.mono (by decide)
 refine FieldsOk.cons (agg := false) (ks := [.s]) (ks' := ([.i] ++ ([.i] ++ ([] : List CK)))) ?_ ?_ ?_ ?_ ?_
 · rfl
 · decide
 · decide
 · exact eqS.mono (by decide)
 refine FieldsOk.cons (agg := false) (ks := [.i]) (ks' := ([.i] ++ ([] : List CK))) ?_ ?_ ?_ ?_ ?_
 · rfl
 · decide
 · decide
 · exact eqI.mono (by decide)
 refine FieldsOk.cons (agg := false) (ks := [.i]) (ks' := ([] : List CK)) ?_ ?_ ?_ ?_ ?_
 · rfl
 · decide
 · decide
 · exact eqI.mono (by decide)
 exact FieldsOk.nil _
def kCounted : List CK := (kKey ++ ([.i] ++ ([] : List CK)))
theorem eqCounted : EqT Tryz.prog 3 100 true kCounted := by
 refine struct_eq (h := 2) (ks := kCounted) Tryz.underlying100 (by kernel_rfl) (by kernel_rfl) ?_
 unfold kCounted
 refine FieldsOk.cons (agg := true) (ks := kKey) (ks' := ([.i] ++ ([] : List CK))) ?_ ?_ ?_ ?_ ?_
 · rfl
 · decide
 · decide
 · exact eqKey.mono (by decide)
 refine FieldsOk.cons (agg := false) (ks := [.i]) (ks' := ([] : List CK)) ?_ ?_ ?_ ?_ ?_
 · rfl
 · decide
 · decide
 · exact eqI.mono (by decide)
 exact FieldsOk.nil _
def kTotal : List CK := ([.s] ++ ([.s] ++ ([.i] ++ ([.i] ++ ([.i] ++ ([.i] ++ ([] : List CK)))))))
theorem eqTotal : EqT Tryz.prog 2 103 true kTotal := by
 refine struct_eq (h := 1) (ks := kTotal) Tryz.underlying103 (by kernel_rfl) (by kernel_rfl) ?_
 unfold kTotal
 refine FieldsOk.cons (agg := false) (ks := [.s]) (ks' := ([.s] ++ ([.i] ++ ([.i] ++ ([.i] ++ ([.i] ++ ([] : List CK))))))) ?_ ?_ ?_ ?_ ?_
 · rfl
 · decide
 · decide
 · exact eqS.mono (by decide)
 refine FieldsOk.cons (agg := false) (ks := [.s]) (ks' := ([.i] ++ ([.i] ++ ([.i] ++ ([.i] ++ ([] : List CK)))))) ?_ ?_ ?_ ?_ ?_
 · rfl
 · decide
 · decide
 · exact eqS.mono (by decide)
 refine FieldsOk.cons (agg := false) (ks := [.i]) (ks' := ([.i] ++ ([.i] ++ ([.i] ++ ([] : List CK))))) ?_ ?_ ?_ ?_ ?_
 · rfl
 · decide
 · decide
 · exact eqI.mono (by decide)
 refine FieldsOk.cons (agg := false) (ks := [.i]) (ks' := ([.i] ++ ([.i] ++ ([] : List CK)))) ?_ ?_ ?_ ?_ ?_
 · rfl
 · decide
 · decide
 · exact eqI.mono (by decide)
 refine FieldsOk.cons (agg := false) (ks := [.i]) (ks' := ([.i] ++ ([] : List CK))) ?_ ?_ ?_ ?_ ?_
 · rfl
 · decide
 · decide
 · exact eqI.mono (by decide)
 refine FieldsOk.cons (agg := false) (ks := [.i]) (ks' := ([] : List CK)) ?_ ?_ ?_ ?_ ?_
 · rfl
 · decide
 · decide
 · exact eqI.mono (by decide)
 exact FieldsOk.nil _
end Go.Proofs.YtlkmccmbpnbgbaaGreat

namespace Go.Proofs.YtlkmccmbpnbgbaaGreat
open Go.RowKit

theorem cell_of_block {w : World} {b o : Nat} {c : Array Value} {t : TypeId} {fr : Nat × Nat} (h : w.heap[b]? = some (.cells c t fr)) : w.cell? ⟨b, o, none⟩ = c[o]? := by
 simp [World.cell?, h]
theorem frozen_of_block {w : World} {b o : Nat} {c : Array Value} {t : TypeId} (h : w.heap[b]? = some (.cells c t (0, 0))) : w.frozen? ⟨b, o, none⟩ = false := by
 simp [World.frozen?, h]
theorem block_setCell {w : World} {b o : Nat} {c : Array Value} {t : TypeId} {fr : Nat × Nat} (h : w.heap[b]? = some (.cells c t fr)) (v : Value) : (w.setCell ⟨b, o, none⟩ v).heap[b]? = some (.cells (c.setIfInBounds o v) t fr) := by
 simp only [World.setCell, Array.getElem?_modify, h, Option.map_some]
 rfl
theorem block_setCell_other {w : World} {b k o : Nat} (hk : k ≠ b) (v : Value) : (w.setCell ⟨b, o, none⟩ v).heap[k]? = w.heap[k]? := Below.heap_setCell _ _ _ _ hk

structure Only (X : Nat → Prop) (w w' : World) : Prop where
 os : w'.os = w.os
 tape : w'.tape = w.tape
 output : w'.output = w.output
 size : w.heap.size ≤ w'.heap.size
 block : ∀ k, k < w.heap.size → ¬ X k → w'.heap[k]? = w.heap[k]?

theorem Only.refl (X : Nat → Prop) (w : World) : Only X w w := ⟨rfl, rfl, rfl, Nat.le_refl _, fun _ _ _ => rfl⟩
theorem Only.trans {X Y Z : Nat → Prop} {a b c : World} (h : Only X a b) (k : Only Y b c) (hX : ∀ i, X i → Z i) (hY : ∀ i, Y i → i < a.heap.size → Z i) : Only Z a c :=
 ⟨k.os.trans h.os, k.tape.trans h.tape, k.output.trans h.output, Nat.le_trans h.size k.size, fun i hi hz => (k.block i (Nat.lt_of_lt_of_le hi h.size) (fun y => hz (hY i y hi))).trans (h.block i hi (fun x => hz (hX i x)))⟩
theorem Only.tr {X : Nat → Prop} {a b c : World} (h : Only X a b) (k : Only X b c) : Only X a c := h.trans k (fun _ x => x) (fun _ x _ => x)
theorem Only.mono {X Y : Nat → Prop} {a b : World} (h : Only X a b) (hX : ∀ i, X i → i < a.heap.size → Y i) : Only Y a b :=
 ⟨h.os, h.tape, h.output, h.size, fun i hi hy => h.block i hi (fun x => hy (hX i x hi))⟩
theorem Only.below {X : Nat → Prop} {a b : World} (h : Below a.heap.size a b) : Only X a b := ⟨h.os, h.tape, h.output, h.size, fun i hi _ => h.block i hi⟩
theorem Only.setCell {X : Nat → Prop} (w : World) {a : Addr} (hX : X a.block) (u : Value) : Only X w (w.setCell a u) :=
 ⟨rfl, rfl, rfl, by simp [World.setCell], fun i _ hx => Below.heap_setCell _ _ _ _ (fun e => hx (e ▸ hX))⟩
theorem Only.set (w : World) (b o : Nat) (u : Value) : Only (fun i => i = b) w (w.setCell ⟨b, o, none⟩ u) := Only.setCell (X := fun i => i = b) w (a := ⟨b, o, none⟩) rfl u
theorem Only.alloc {X : Nat → Prop} (w : World) (o : Obj) : Only X w (w.alloc o) := Only.below ((Below.refl _ _).alloc (Nat.le_refl _) o)
theorem Only.drew {X : Nat → Prop} {a w : World} (h : Only X a w) : Only X a w.drew := ⟨h.os, h.tape, h.output, h.size, h.block⟩

/-- At the slice's address A lie the cells xs, below block B. -/
def Rd (w : World) (B : Nat) (A : Option Addr) (xs : List Value) : Prop :=
 0 < xs.length → ∃ b off, A = some ⟨b, off, none⟩ ∧ b < B ∧ ∀ (j : Nat) (u : Value), xs[j]? = some u → w.cell? ⟨b, off + j, none⟩ = some u

section
variable {w w' : World} {B B' : Nat} {A : Option Addr} {xs ys : List Value}
theorem Rd.none_ : Rd w B A [] := fun h => absurd h (by simp)
theorem Rd.mono (h : Rd w B A xs) (hB : B ≤ B') : Rd w B' A xs := fun hx => by
 obtain ⟨b, off, e, hb, hc⟩ := h hx
 exact ⟨b, off, e, by omega, hc⟩
theorem Rd.keep (h : Rd w B A xs) (hk : ∀ b i, b < B → w'.cell? ⟨b, i, none⟩ = w.cell? ⟨b, i, none⟩) : Rd w' B A xs := fun hx => by
 obtain ⟨b, off, e, hb, hc⟩ := h hx
 exact ⟨b, off, e, hb, fun j u hu => (hk _ _ hb).trans (hc j u hu)⟩
theorem Rd.below (h : Rd w B A xs) (hb : Below B w w') : Rd w' B A xs := h.keep fun b i hp => hb.cell (p := ⟨b, i, none⟩) hp
theorem Rd.take (h : Rd w B A (xs ++ ys)) : Rd w B A xs := fun hx => by
 obtain ⟨b, off, e, hb, hc⟩ := h (by rw [List.length_append]; omega)
 refine ⟨b, off, e, hb, fun j u hu => hc j u ?_⟩
 have : j < xs.length := (List.getElem?_eq_some_iff.1 hu).1
 rw [List.getElem?_append_left this]; exact hu
/-- Behind a cut: what lies from k cells on. -/
theorem Rd.drop (h : Rd w B A xs) (k : Nat) : Rd w B (A.map (·.add k)) (xs.drop k) := fun hx => by
 rw [List.length_drop] at hx
 obtain ⟨b, off, rfl, hb, hc⟩ := h (by omega)
 refine ⟨b, off + k, by simp [Addr.add_lit], hb, fun j u hu => ?_⟩
 rw [Nat.add_assoc]
 exact hc _ u (by rw [← hu, List.getElem?_drop])
/-- Behind a cut s[k:], as the model spells its address. -/
def cutA (A : Option Addr) (cap c k : Nat) : Option Addr := if cap = c then A else A.map (·.add (c * k))
theorem Rd.cut (h : Rd w B A xs) (k c cap : Nat) (hcap : cap = c → xs.length ≤ c * k) :
 Rd w B (cutA A cap c k) (xs.drop (c * k)) := fun hd => by
 rw [List.length_drop] at hd
 unfold cutA
 rw [if_neg (fun e => by have := hcap e; omega)]
 exact h.drop (c * k) (by rw [List.length_drop]; omega)
theorem Rd.of_own {base size n c : Nat} {e : TypeId} (h : w.ownsRow base e size (.slice A n c) n xs) : Rd w w.heap.size A xs := fun hx => by
 rcases h.2 with ⟨_, rfl⟩ | ⟨g, cap, cur, hv, _, hh, hnc, _, hs, ht⟩
 · have := h.1; omega
 · have hA : A = some ⟨g, 0, none⟩ := by injection hv
   subst hA
   refine ⟨g, 0, rfl, lt_of_block hh, fun j u hu => ?_⟩
   rw [Nat.zero_add, cell_of_row w g j cur e (0, 0) hh]
   rw [← ht] at hu
   have hj : j < n * size := by
    have := (List.getElem?_eq_some_iff.1 hu).1
    rw [List.length_take] at this; omega
   rw [List.getElem?_take_of_lt hj] at hu
   rw [← hu, Array.getElem?_toList]
end

theorem run_cut {P : Program} (t e : TypeId) (s : Nat) (i : TypeInfo) (ht : P.underlying t = some (.slice e)) (hi : P.info? e = some i) (hs : i.size = s) (A : Option Addr) (n c j : Nat) (hj : j ≤ n) (w : World) :
 (Instr.sliceAt t (.slice A n c) (some (.int .i64 (j : Int))) none none).run P w = .ok (.slice (cutA A c j s) (n - j) (c - j)) w := by
 have he : P.elem t = e := by simp [Program.elem, ht]
 have ht' : P.underlying t = some (.slice (P.elem t)) := by rw [he]; exact ht
 rw [run_sliceAt_slice (h := ht'), run_slice_l (ht := ht') (h0 := by omega) (h1 := by omega), he]
 simp [sizeOf, typeInfo, hi, hs, sliced, cutA, Result.andThen]

theorem own_form {w : World} {base size n : Nat} {e : TypeId} {v : Value} {xs : List Value} (h : w.ownsRow base e size v n xs) : ∃ A c, v = .slice A n c ∧ n ≤ c := by
 rcases h.2 with ⟨rfl, rfl⟩ | ⟨g, cap, cur, rfl, _, _, hnc, _⟩
 · exact ⟨none, 0, rfl, Nat.le_refl _⟩
 · exact ⟨_, cap, rfl, hnc⟩
theorem own_base {w : World} {base size n : Nat} {e : TypeId} {v : Value} {xs : List Value} (h : w.ownsRow base e size v n xs) : ∀ k, v.ownBlock = some k → base ≤ k := by
 intro k hk
 rcases h.2 with ⟨rfl, rfl⟩ | ⟨g, cap, cur, rfl, hb, _⟩
 · simp [Value.ownBlock] at hk
 · simp [Value.ownBlock] at hk; omega
theorem own_cap {w : World} {base size n c : Nat} {e : TypeId} {A : Option Addr} {xs : List Value} (h : w.ownsRow base e size (.slice A n c) n xs) : n ≤ c := by
 obtain ⟨A', c', hv, hc⟩ := own_form h
 injection hv with _ _ h3
 omega

theorem own_max {w : World} {base size n c : Nat} {e : TypeId} {A : Option Addr} {xs : List Value} (h : w.ownsRow base e size (.slice A n c) n xs) : c ≤ 9223372036854775807 := by
 rcases h.2 with ⟨hv, _⟩ | ⟨g, cap, cur, hv, _, _, _, hm, _⟩
 · injection hv with _ _ h3
   omega
 · injection hv with _ _ h3
   simp only [maxLen] at hm
   omega
theorem own_some {w : World} {base size n c : Nat} {e : TypeId} {A : Option Addr} {xs : List Value} (h : w.ownsRow base e size (.slice A n c) n xs) (hn : 0 < n) : ∃ g, A = some ⟨g, 0, none⟩ := by
 rcases h.2 with ⟨_, rfl⟩ | ⟨g, cap, cur, hv, _⟩
 · omega
 · injection hv with hv _ _
   exact ⟨g, hv⟩
theorem own_below {w w' : World} {base size n : Nat} {e : TypeId} {v : Value} {xs : List Value} (h : w.ownsRow base e size v n xs) (hb : Below w.heap.size w w') : w'.ownsRow base e size v n xs := by
 refine ⟨h.1, h.2.imp id fun ⟨g, cap, cur, hv, hg, hh, hr⟩ => ⟨g, cap, cur, hv, hg, (hb.block g (lt_of_block hh)).trans hh, hr⟩⟩

section
variable {P : Program}

theorem run_app (w : World) (base : Nat) (t ty e : TypeId) (i : TypeInfo) (z : Value) (size bytes : Nat) (ht : P.underlying t = some (.slice e)) (hi : P.info? e = some i) (hz : i.zero = some z)
 (hsize : i.size = size) (hby : i.bytes = bytes) (hzs : z.cells.size = size) (hsz : 0 < size)
 (A : Option Addr) (n c : Nat) (xs : List Value) (hown : w.ownsRow base e size (.slice A n c) n xs)
 (B2 : Nat) (A2 : Option Addr) (m c2 : Nat) (news : List Value) (hl : news.length = m * size) (hr : Rd w B2 A2 news) (h1 : ∀ u ∈ news, u.oneCell' = true)
 (h63 : n + m ≤ maxLen) (hbytes : (n + m) * bytes ≤ 140737488355328) (hbase : base ≤ w.heap.size) :
 ∃ A' c' w', (Builtin.append_ #[t, t] ty #[.slice A n c, .slice A2 m c2]).run P w = .ok (.slice A' (n + m) c') w' ∧ w'.ownsRow base e size (.slice A' (n + m) c') (n + m) (xs ++ news) ∧ Below base w w' := by
 have hcells : ∀ ad, A2 = some ad → ∀ j u, news[j]? = some u → w.cell? (ad.add j) = some u := by
  rintro ad rfl j u hu
  obtain ⟨b, off, he, _, hc⟩ := hr (by have := (List.getElem?_eq_some_iff.1 hu).1; omega)
  injection he with he
  subst he
  rw [Addr.add_lit]
  exact hc j u hu
 rcases A2 with _ | ad
 · have hm : news = [] := by
    rcases Nat.eq_zero_or_pos news.length with h0 | h0
    · exact List.eq_nil_of_length_eq_zero h0
    · obtain ⟨b, off, he, _⟩ := hr h0
      cases he
   subst hm
   have hm0 : m = 0 := by
    rcases Nat.mul_eq_zero.1 hl.symm with h | h
    · exact h
    · omega
   subst hm0
   refine ⟨A, c, w, ?_, by simpa using hown, Below.refl _ _⟩
   have hcap := own_cap hown
   rcases hown.2 with ⟨hv, _⟩ | ⟨g, cap, cur, hv, _, _, hnc, _⟩
   · injection hv with e1 e2 e3
     subst e1 e2 e3
     simp [Builtin.append_, run_underlying ht, sizeOf, typeInfo, hi, Builtin.lenOf, Builtin.firstCells]
   · injection hv with e1 e2 e3
     subst e1 e3
     simp [Builtin.append_, run_underlying ht, sizeOf, typeInfo, hi, Builtin.lenOf, Builtin.firstCells, hcap, storeCells]
 · obtain ⟨v', w', hrun, hown', hg, _, _⟩ := run_append_own_at (P := P) w base t ty e i z size bytes ht hi hz hsize hby hzs hsz _ n xs hown ad m c2 news hl (hcells ad rfl) h1 h63 hbytes hbase
   obtain ⟨A', c', rfl, _⟩ := own_form hown'
   exact ⟨A', c', w', hrun, hown', (Below.refl _ _).grown hg hbase (fun k hk => own_base hown k hk)⟩

theorem wp_app {w : World} {o : Oper} {a : Act} {K : Act → World → Prop} {Q : Exit → Act → World → Prop} (s x : Operand) (t : TypeId)
 (ho : o.op = .call { callee := .builtin .append, args := #[s, x], argTypes := #[t, t] })
 (base : Nat) (e : TypeId) (i : TypeInfo) (z : Value) (size bytes : Nat) (ht : P.underlying t = some (.slice e)) (hi : P.info? e = some i) (hz : i.zero = some z)
 (hsize : i.size = size) (hby : i.bytes = bytes) (hzs : z.cells.size = size) (hsz : 0 < size)
 (A : Option Addr) (n c : Nat) (xs : List Value) (hs : a.eval s = .slice A n c) (hown : w.ownsRow base e size (.slice A n c) n xs)
 (B2 : Nat) (A2 : Option Addr) (m c2 : Nat) (news : List Value) (hx : a.eval x = .slice A2 m c2) (hl : news.length = m * size) (hr : Rd w B2 A2 news) (h1 : ∀ u ∈ news, u.oneCell' = true)
 (h63 : n + m ≤ maxLen) (hbytes : (n + m) * bytes ≤ 140737488355328) (hbase : base ≤ w.heap.size)
 (h : ∀ A' c' w', w'.ownsRow base e size (.slice A' (n + m) c') (n + m) (xs ++ news) → Below base w w' → K (a.put o.dst (.slice A' (n + m) c')) w') : o.wp P a w K Q := by
 obtain ⟨A', c', w', hrun, h2, h3⟩ := run_app (P := P) w base t o.type e i z size bytes ht hi hz hsize hby hzs hsz A n c xs hown B2 A2 m c2 news hl hr h1 h63 hbytes hbase
 unfold Oper.wp execOp
 simp only [ho, resolve, invoke, builtin, Sem.run_bind, Sem.run_pure, Result.andThen_ok, List.map_toArray, List.map_cons, List.map_nil, hs, hx, hrun]
 exact h A' c' w' h2 h3

theorem wpList_app {w : World} {ops : Array Oper} {rest : List Oper} {o : Oper} {a : Act} {Q : Exit → Act → World → Prop} (hgd : o.guard = none) (s x : Operand) (t : TypeId)
 (ho : o.op = .call { callee := .builtin .append, args := #[s, x], argTypes := #[t, t] })
 (base : Nat) (e : TypeId) (i : TypeInfo) (z : Value) (size bytes : Nat) (ht : P.underlying t = some (.slice e)) (hi : P.info? e = some i) (hz : i.zero = some z)
 (hsize : i.size = size) (hby : i.bytes = bytes) (hzs : z.cells.size = size) (hsz : 0 < size)
 (A : Option Addr) (n c : Nat) (xs : List Value) (hs : a.eval s = .slice A n c) (hown : w.ownsRow base e size (.slice A n c) n xs)
 (B2 : Nat) (A2 : Option Addr) (m c2 : Nat) (news : List Value) (hx : a.eval x = .slice A2 m c2) (hl : news.length = m * size) (hr : Rd w B2 A2 news) (h1 : ∀ u ∈ news, u.oneCell' = true)
 (h63 : n + m ≤ maxLen) (hbytes : (n + m) * bytes ≤ 140737488355328) (hbase : base ≤ w.heap.size)
 (h : ∀ A' c' w', w'.ownsRow base e size (.slice A' (n + m) c') (n + m) (xs ++ news) → Below base w w' → wpList P ops Q rest (a.put o.dst (.slice A' (n + m) c')) w') : wpList P ops Q (o :: rest) a w :=
 wpList_plain hgd fun _ hK => wp_app s x t ho base e i z size bytes ht hi hz hsize hby hzs hsz A n c xs hs hown B2 A2 m c2 news hx hl hr h1 h63 hbytes hbase fun A' c' w' h2 h3 => hK _ _ (h A' c' w' h2 h3)
end

/-- Texts as cells. -/
def sc (l : List ByteArray) : List Value := l.map Value.string
theorem sc_length (l : List ByteArray) : (sc l).length = l.length := by simp [sc]
/-- One text at its place. -/
theorem Rd.str_at {w : World} {B : Nat} {A : Option Addr} {l : List ByteArray} (h : Rd w B A (sc l)) {i : Nat} (hi : i < l.length) :
 ∃ b off, A = some ⟨b, off, none⟩ ∧ b < B ∧ ∀ j (hj : j < l.length), w.cell? ⟨b, off + j, none⟩ = some (.string l[j]) := by
 obtain ⟨b, off, e, hb, hc⟩ := h (by rw [sc_length]; omega)
 exact ⟨b, off, e, hb, fun j hj => hc j _ (by simp [sc, List.getElem?_eq_getElem hj])⟩
/-- Bytes as cells. -/
def bv (l : List UInt8) : List Value := l.map fun b => Value.int .u8 (b.toNat : Int)
theorem below_drewN {B : Nat} {a w : World} (h : Below B a w) (n : Nat) : Below B a (w.drewN n) := ⟨h.os, h.tape, h.output, h.size, h.block⟩
end Go.Proofs.YtlkmccmbpnbgbaaGreat

namespace Go.Proofs.YtlkmccmbpnbgbaaGreat
open Go.RowKit

theorem flat_at {sz : Nat} : ∀ {L : List (List Value)} (_h : ∀ e ∈ L, e.length = sz) (i j : Nat) (hi : i < L.length) (_hj : j < sz), L.flatten[i * sz + j]? = L[i][j]? := by
 intro L
 induction L with
 | nil => intro _ i j hi; simp at hi
 | cons e L ih =>
  intro h i j hi hj
  have he := h e (List.mem_cons_self ..)
  rw [List.flatten_cons]
  cases i with
  | zero => rw [List.getElem?_append_left (by omega)]; simp
  | succ i =>
   rw [List.getElem?_append_right (by rw [Nat.succ_mul]; omega), show (i + 1) * sz + j - e.length = i * sz + j from by rw [Nat.succ_mul]; omega]
   exact ih (fun e' he' => h e' (List.mem_cons_of_mem _ he')) i j (by simpa using hi) hj
theorem flat_length {sz : Nat} : ∀ {L : List (List Value)} (_h : ∀ e ∈ L, e.length = sz), L.flatten.length = L.length * sz := by
 intro L
 induction L with
 | nil => intro _; simp
 | cons e L ih =>
  intro h
  rw [List.flatten_cons, List.length_append, ih (fun e' he' => h e' (List.mem_cons_of_mem _ he')), h e (List.mem_cons_self ..), List.length_cons, Nat.succ_mul]
  omega
/-- Things of these kinds. -/
def Things (ks : List CK) (L : List (List Value)) : Prop := ∀ e ∈ L, Fits ks e
theorem Things.len {ks : List CK} {L : List (List Value)} (h : Things ks L) : ∀ e ∈ L, e.length = ks.length := fun e he => (h e he).length
/-- One thing at its place. -/
theorem Rd.thing {w : World} {B : Nat} {A : Option Addr} {ks : List CK} {L : List (List Value)} (h : Rd w B A L.flatten) (ht : Things ks L) (hk : 1 ≤ ks.length) {i : Nat} (hi : i < L.length) :
 ∃ b off, A = some ⟨b, off, none⟩ ∧ b < B ∧ ∀ j (hj : j < L.length), w.rangeAt b (off + j * ks.length) L[j] := by
 have hlen := flat_length ht.len
 have hp := Nat.mul_le_mul (show 1 ≤ L.length by omega) hk
 obtain ⟨b, off, rfl, hb, hc⟩ := h (by omega)
 refine ⟨b, off, rfl, hb, fun j hj i v hv => ?_⟩
 have hi2 : i < ks.length := by
  have := (List.getElem?_eq_some_iff.1 hv).1
  rw [ht.len _ (List.getElem_mem hj)] at this
  exact this
 rw [Nat.add_assoc]
 exact hc _ v ((flat_at ht.len j i hj hi2).trans hv)
theorem rangeAt_below {w w' : World} {B b o : Nat} {cs : List Value} (h : w.rangeAt b o cs) (hb : b < B) (hw : Below B w w') : w'.rangeAt b o cs := fun j v hv => (hw.cell (p := ⟨b, o + j, none⟩) hb).trans (h j v hv)

/-- A list of one struct: its cells in a block of their own. -/
theorem wpList_buildOne {P : Program} {ops : Array Oper} {rest : List Oper} {o : Oper} {a : Act} {w : World} {Q : Exit → Act → World → Prop} (hg : o.guard = none) (t e : TypeId) (x : Operand) (ho : o.op = .buildSlice t 1 #[(0, x)])
 (N : Nat) (hN : w.heap.size = N) (dst : Option Tmp) (hdst : o.dst = dst) (i : TypeInfo) (z : Value) (sz : Nat) (hu : P.underlying t = some (.slice e)) (hi : P.info? e = some i) (hz : i.zero = some z) (hs : i.size = sz) (h0 : 1 ≤ sz) (h1 : sz ≤ 1000)
 (cs : List Value) (hx : a.eval x = .agg cs.toArray) (hc : cs.length = sz)
 (h : wpList P ops Q rest (a.put dst (.slice (some ⟨N, 0, none⟩) 1 1)) (w.alloc (.cells cs.toArray e))) : wpList P ops Q (o :: rest) a w := by
 subst hN hdst
 refine wpList_buildSlice hg t e 1 #[(0, x)] ho cs.toArray i z hu hi hz (by omega) (by omega) ?_ h
 have hf := Great.fill_whole (s := sz) (by omega) [Value.agg cs.toArray] ((Array.range (1 * i.size)).map (z.cells[· % z.cells.size]!)) (by simp [Value.cells, hc]) (by simp [hs])
 simpa [hx, hs, Value.cells] using hf
end Go.Proofs.YtlkmccmbpnbgbaaGreat

namespace Go.Proofs.YtlkmccmbpnbgbaaGreat
set_option linter.unusedVariables false
open Go.RowKit

theorem eql_struct {P : Program} {h : Nat} {t : TypeId} {ks : List CK} (e : EqT P h t true ks) (hh : h ≤ 10000) (xs ys : List Value) (w : World) (hx : Fits ks xs) (hy : Fits ks ys) : ∃ b : Bool, (binOp .eql t (.agg xs.toArray) (.agg ys.toArray)).run P w = .ok (.bool b) w ∧ (b = true ↔ xs = ys) := by
 obtain ⟨b, eb, ib⟩ := e.eq (10000 - h) xs ys w hx hy
 rw [show 10000 - h + h = 10000 from by omega] at eb
 refine ⟨b, ?_, ib⟩
 rw [run_eql_struct]
 have : Op.equalIn 10000 t (.agg xs.toArray) (.agg ys.toArray) = Op.equalIn 10000 t (valC true xs) (valC true ys) := rfl
 rw [this, eb]
 rfl
end Go.Proofs.YtlkmccmbpnbgbaaGreat

namespace Go.Proofs.YtlkmccmbpnbgbaaGreat
set_option linter.unusedVariables false
end Go.Proofs.YtlkmccmbpnbgbaaGreat

namespace Go.Proofs.YtlkmccmbpnbgbaaGreat
set_option linter.unusedVariables false
open Go.RowKit

section
variable {P : Program} {ops : Array Oper} {Q : Exit → Act → World → Prop} {md : Region.Mode} {S : World → Prop} {n : Nat}
/-- Whatever order comes, S holds behind each operation but the n'th. -/
def LastW (P : Program) (md : Region.Mode) (ops : Array Oper) (Q : Exit → Act → World → Prop) (S : World → Prop) (n : Nat) : Nat → Array Bool → Act → World → Prop
 | 0, l, a, w => Region.ready md ops l = [] ∧ Q .normal a w
 | f + 1, l, a, w => (Region.ready md ops l = [] → Q .normal a w) ∧ ∀ i ∈ Region.ready md ops l, wpOp P ops Q i (fun a' w' => (i ≠ n → S w') ∧ LastW P md ops Q S n f (l.setIfInBounds i true) a' w') a w
theorem LastW.any : ∀ (f : Nat) (l : Array Bool) (a : Act) (w : World), LastW P md ops Q S n f l a w → wpAny P md ops Q f l a w
 | 0, _, _, _, h => h
 | f + 1, _, _, _, h => ⟨h.1, fun i hi => wpOp_mono (fun a' w' h' => LastW.any f _ a' w' h'.2) (h.2 i hi)⟩
/-- Does the n'th wait for the i'th? -/
def waits (md : Region.Mode) (ops : Array Oper) (n i : Nat) : Bool := match ops[n]? with
 | some o => o.after.any fun e => Region.binds md e && e.on == i
 | none => false
theorem not_ready {i : Nat} {l : Array Bool} (h : waits md ops n i = true) (hl : l.getD i true = false) : n ∉ Region.ready md ops l := fun hn => by
 obtain ⟨_, o, ho, hall⟩ := mem_ready.1 hn
 unfold waits at h
 rw [ho] at h
 obtain ⟨e, he, hb⟩ := Array.any_eq_true'.1 h
 simp only [Bool.and_eq_true, beq_iff_eq] at hb
 have h1 := hall e he hb.1
 rw [hb.2] at h1
 rcases Nat.lt_or_ge i l.size with h' | h'
 · simp [h'] at hl h1; rw [hl] at h1; cases h1
 · simp [Array.getElem?_eq_none h'] at h1
theorem LastW.first {i : Nat} {oi : Oper} {v : Value} (hi : ops[i]? = some oi) (hsel : ∀ (j : Nat) (o : Oper) cs b, ops[j]? = some o → o.op ≠ .select cs b)
 (hQ : ∀ c a w, Q (.panic c) (a.put oi.dst v) w → Q (.panic c) a w) (hw : waits md ops n i = true) (hne : i ≠ n) :
 ∀ (f : Nat) (l : Array Bool) (a : Act) (w : World),
  (∀ j oj, ops[j]? = some oj → j ≠ i → l.getD j true = false → (∀ e ∈ oj.after, Region.binds md e = true → e.on ≠ i) → oi.apart ops oj = true) →
  i ∈ Region.ready md ops l → YieldsIf P ops S oi v a → S w →
  LastW P md ops Q S n f (l.setIfInBounds i true) (a.put oi.dst v) w → LastW P md ops Q S n (f + 1) l a w := by
 intro f
 induction f with
 | zero =>
  intro l a w _ hr hy hS H
  refine ⟨fun h => absurd hr (by rw [h]; simp), fun j hj => ?_⟩
  by_cases e : j = i
  · subst e; exact hy.wpOp hi hS ⟨fun _ => hS, H⟩
  · exact absurd (ready_mono hj e) (by rw [H.1]; simp)
 | succ f ih =>
  intro l a w hfr hr hy hS H
  refine ⟨fun h => absurd hr (by rw [h]; simp), fun j hj => ?_⟩
  by_cases e : j = i
  · subst e; exact hy.wpOp hi hS ⟨fun _ => hS, H⟩
  · have hl := (mem_ready.1 hr).1
    have hjn : j ≠ n := fun h => not_ready hw hl (h ▸ hj)
    obtain ⟨hjl, oj, hoj, hall⟩ := mem_ready.1 hj
    have hno : ∀ x ∈ oj.after, Region.binds md x = true → x.on ≠ i := fun x hx hb hxi => by
     have h1 := hall x hx hb
     rw [hxi] at h1
     rcases Nat.lt_or_ge i l.size with h' | h'
     · simp [h'] at hl h1; rw [hl] at h1; cases h1
     · simp [Array.getElem?_eq_none h'] at h1
    have h2 := wpOp_putIf hoj (hfr j oj hoj e hjl hno) (fun cs b => hsel i oi cs b hi) (fun cs b => hsel j oj cs b hoj) hQ hy (H.2 j (ready_mono hj e))
    refine wpOp_mono (fun a' w' h3 => ⟨h3.2.1, ih (l.setIfInBounds j true) a' w' (fun k ok hk hki hun hx => hfr k ok hk hki ?_ hx) (ready_mono hr (Ne.symm e)) h3.1 (h3.2.1 hjn) ?_⟩) h2
    · by_cases hjk : j = k
      · subst hjk; exact hjl
      · rw [getD_set_ne true hjk] at hun; exact hun
    · rw [Array.setIfInBounds_comm _ _ e]; exact h3.2.2
theorem LastW.take {i : Nat} {oi : Oper} {v : Value} {f : Nat} {l : Array Bool} {a : Act} {w : World} (hi : ops[i]? = some oi) (hs : Region.noSelect ops = true) (hf : Region.free md ops l i = true)
 (hr : (Region.ready md ops l).contains i = true) (hw : waits md ops n i = true) (hne : i ≠ n) (hQ : ∀ c a w, Q (.panic c) (a.put oi.dst v) w → Q (.panic c) a w) (hy : YieldsIf P ops S oi v a) (hS : S w)
 (h : LastW P md ops Q S n f (l.setIfInBounds i true) (a.put oi.dst v) w) : LastW P md ops Q S n (f + 1) l a w :=
 LastW.first hi (Region.noSelect_spec hs) hQ hw hne f l a w (Region.free_spec hi hf) (by simpa using hr) hy hS h
/-- One alone may come up. -/
theorem LastW.one {i : Nat} {o : Oper} {f : Nat} {l : Array Bool} {a : Act} {w : World} (hr : Region.ready md ops l = [i]) (ho : ops[i]? = some o)
 (h : ∀ K : Act → World → Prop, Hid (∀ a w, (i ≠ n → S w) → ((i ≠ n → S w) → LastW P md ops Q S n f (l.setIfInBounds i true) a w) → K a w) → if Region.wanted o (yielded ops a.tmps) = true then Oper.wp P o a w K Q else K (a.put o.dst undef) w) :
 LastW P md ops Q S n (f + 1) l a w :=
 ⟨fun h0 => absurd (hr ▸ h0) (by simp), fun j hj => by
  rw [hr, List.mem_singleton] at hj
  subst hj
  exact wpOp_step ho fun K' hK => h K' (Lib.hid fun a w hS hW => hK a w ⟨hS, hW hS⟩)⟩
theorem LastW.done {l : Array Bool} {a : Act} {w : World} (hr : Region.ready md ops l = []) (h : Q .normal a w) : ∀ f, LastW P md ops Q S n f l a w
 | 0 => ⟨hr, h⟩
 | _ + 1 => ⟨fun _ => h, by rw [hr]; simp⟩
/-- The beginning, behind the draw; no way out by a panic. -/
theorem lastW_region {id : Nat} {a : Act} {w : World} (hm : P.follows .mixedOrders = true) (h : LastW P .any ops (NoPanic Q) S n ops.size (Array.replicate ops.size false) a w.drew) : (Code.region id ops true).wp P Q a w :=
 wp_region_noPanic (wp_region_any hm (h.any ..))
end
end Go.Proofs.YtlkmccmbpnbgbaaGreat

namespace Go.Proofs.YtlkmccmbpnbgbaaGreat
set_option linter.unusedVariables false
open Go.RowKit

/-- A world behind W0. -/
structure BW (W0 : World) where
 W : World
 h : Below W0.heap.size W0 W
instance bwNonempty (W0 : World) : Nonempty (BW W0) := ⟨⟨W0, Below.refl _ _⟩⟩
theorem wp_grow {P : Program} {ops : Array Oper} {id : Nat} {Q : Exit → Act → World → Prop} {a : Act} {w : World} (W0 : World) (hm : P.follows .mixedOrders = true) (hB : Region.lexB .any ops = true) (hw : Below W0.heap.size W0 w)
 (h : wpQuiet P ops (fun w' => ∃ X : BW W0, w' = X.W) (fun a' => ∀ X : BW W0, Q .normal a' X.W) ops.toList a) : (Code.region id ops true).wp P Q a w :=
 wp_region_quiet (C := fun w' => ∃ X : BW W0, w' = X.W) hm hB ⟨⟨w.drew, hw.drew⟩, rfl⟩ (by
  have e : (fun a' => ∀ w', (∃ X : BW W0, w' = X.W) → Q .normal a' w') = (fun a' => ∀ X : BW W0, Q .normal a' X.W) := by
   funext a'
   exact propext ⟨fun h X => h _ ⟨X, rfl⟩, fun h w' ⟨X, hX⟩ => by rw [hX]; exact h X⟩
  rw [e]; exact h)
/-- A call that answers v in every world behind W0. -/
theorem grow_call {P : Program} {W0 : World} {f : FuncId} {args : Array Value} {v : Value} (X : BW W0) (h : Calls P f args X.W fun e w' => e = .returned v ∧ Below X.W.heap.size X.W w') : Calls P f args X.W fun e w' => e = .returned v ∧ ∃ Y : BW W0, w' = Y.W :=
 h.mono fun e w' ⟨h1, h2⟩ => ⟨h1, ⟨w', X.h.trans (h2.mono X.h.size)⟩, rfl⟩
/-- The load of a whole struct. -/
theorem quiet_load_mid {P : Program} {C : World → Prop} {o : Oper} {a : Act} {K : Act → Prop} (ty : TypeId) (x : Operand) (ho : o.op = .load ty x) (b off : Nat) (hx : a.eval x = .pointer (some ⟨b, off, none⟩)) (cs : List Value) (d : TypeDesc)
 (hS : ∀ w, C w → w.rangeAt b off cs) (hu : P.underlying ty = some d) (hd : d.isRow = true) (hi : (P.info? ty).map (·.size) = some cs.length) (hk : K (a.put o.dst (.agg cs.toArray))) : o.quiet P a C K :=
 ⟨.agg cs.toArray, fun w hw => by
  unfold Oper.quietAt execOp
  simp only [ho, hx, Instr.loadAt, Instr.sureAddr, Sem.run_bind, Sem.run_pure, Result.andThen_ok, run_loadVar_mid w b off ty cs d (hS w hw) hu hd hi]
  exact ⟨rfl, rfl⟩, hk⟩
end Go.Proofs.YtlkmccmbpnbgbaaGreat

namespace Go.Proofs.YtlkmccmbpnbgbaaGreat
set_option linter.unusedVariables false
open Go.RowKit

def notSelect (o : Oper) : Bool := match o.op with | .select .. => false | _ => true
/-- The j'th operation fills the temporary base + j (the n'th: last), waits for earlier ones alone, and looks at what it waits for. -/
def linOp (md : Region.Mode) (base last n : Nat) (ops : Array Oper) (j : Nat) : Bool :=
 match ops[j]? with
 | none => false
 | some o => (o.dst == if j + 1 = n then some last else some (base + j)) && o.after.all (fun e => decide (e.on < j)) &&
  (o.looksAt ops).all (fun t => (decide (t < base) && t != last) || (decide (t < base + j) && o.after.any fun e => Region.binds md e && base + e.on == t)) && notSelect o
theorem lin_spec {md : Region.Mode} {base last n : Nat} {ops : Array Oper} {j : Nat} (h : linOp md base last n ops j = true) : ∃ o, ops[j]? = some o ∧ (o.dst = if j + 1 = n then some last else some (base + j)) ∧ (∀ e ∈ o.after, e.on < j) ∧
 (∀ t : Nat, t ∈ o.looksAt ops → (t < base ∧ t ≠ last) ∨ (t < base + j ∧ ∃ e ∈ o.after, Region.binds md e = true ∧ base + e.on = t)) ∧ notSelect o = true := by
 unfold linOp at h
 split at h
 · cases h
 · rename_i o ho
   simp only [Bool.and_eq_true, beq_iff_eq, Array.all_eq_true_iff_forall_mem, decide_eq_true_eq, List.all_eq_true, Bool.or_eq_true, bne_iff_ne] at h
   obtain ⟨⟨⟨h1, h2⟩, h3⟩, h4⟩ := h
   refine ⟨o, ho, h1, h2, fun t ht => ?_, h4⟩
   rcases h3 t ht with h | ⟨h, k⟩
   · exact .inl h
   · obtain ⟨e, he, hb⟩ := Array.any_eq_true'.1 k
     simp only [Bool.and_eq_true, beq_iff_eq] at hb
     exact .inr ⟨h, e, he, hb⟩
theorem lex_of {md : Region.Mode} {base last n : Nat} {ops : Array Oper} (hn : ops.size = n) (hl : last < base) (h : ∀ j, j < n → linOp md base last n ops j = true) : Region.lexB md ops = true := by
 have hs : Region.noSelect ops = true := by
  unfold Region.noSelect
  rw [Array.all_eq_true_iff_forall_mem]
  intro o ho
  obtain ⟨j, hj, rfl⟩ := Array.getElem_of_mem ho
  obtain ⟨o', h1, _, _, _, h5⟩ := lin_spec (h j (by omega))
  rw [Array.getElem?_eq_getElem hj] at h1
  injection h1 with h1
  rw [h1]; exact h5
 have hx : ∀ (f k : Nat) (l : Array Bool), k + f = n → l.size = n → (∀ i, i < n → l[i]? = some (decide (i < k))) → Region.lexFrom md ops f k l = true := by
  intro f
  induction f with
  | zero =>
   intro k l hk _ hi
   unfold Region.lexFrom
   rw [List.isEmpty_iff, List.eq_nil_iff_forall_not_mem]
   intro j hj
   obtain ⟨h1, o, h2, _⟩ := mem_ready.1 hj
   have hjn : j < n := by rw [← hn]; exact (Array.getElem?_eq_some_iff.1 h2).1
   have : l.getD j true = decide (j < k) := by rw [Array.getD_eq_getD_getElem?, hi j hjn]; rfl
   rw [this] at h1
   simp at h1; omega
  | succ f ih =>
   intro k l hk hsz hi
   have hkn : k < n := by omega
   have gt : ∀ j, j < n → l.getD j true = decide (j < k) := fun j hj => by rw [Array.getD_eq_getD_getElem?, hi j hj]; rfl
   have gf : ∀ j, j < n → l.getD j false = decide (j < k) := fun j hj => by rw [Array.getD_eq_getD_getElem?, hi j hj]; rfl
   obtain ⟨oi, h1, h2, h3, h4, _⟩ := lin_spec (h k hkn)
   unfold Region.lexFrom
   rw [Bool.and_eq_true, Bool.and_eq_true]
   refine ⟨⟨?_, ?_⟩, ih (k + 1) _ (by omega) (by simpa using hsz) fun i hin => ?_⟩
   · rw [List.contains_iff_mem, mem_ready]
     refine ⟨by rw [gt k hkn]; simp, oi, h1, fun e he _ => ?_⟩
     have := h3 e he
     rw [gf e.on (by omega)]; simpa using this
   · unfold Region.free
     rw [h1]
     simp only [List.all_eq_true, List.mem_range, Bool.or_eq_true, beq_iff_eq]
     intro j hj
     rw [hn] at hj
     by_cases hjk : j = k
     · exact .inl (.inl hjk)
     by_cases hlt : j < k
     · exact .inl (.inr (by rw [gt j hj]; simpa using hlt))
     refine .inr ?_
     obtain ⟨oj, k1, k2, k3, k4, _⟩ := lin_spec (h j hj)
     rw [k1]
     simp only [Bool.or_eq_true]
     by_cases hedge : (oj.after.any fun e => Region.binds md e && e.on == k) = true
     · exact .inl hedge
     refine .inr ?_
     rw [if_neg (by omega)] at h2
     have hno : (base + k) ∉ oj.looksAt ops := fun ht => by
      rcases k4 (base + k) ht with ⟨a, _⟩ | ⟨_, e, he, hb, hq⟩
      · omega
      · refine hedge (Array.any_eq_true'.2 ⟨e, he, ?_⟩)
        rw [hb, Bool.true_and, beq_iff_eq]; omega
     have hdst : ∃ d : Nat, oj.dst = some d ∧ d ≠ base + k ∧ d ∉ oi.looksAt ops := by
      by_cases hlast : j + 1 = n
      · rw [if_pos hlast] at k2
        refine ⟨last, k2, by omega, fun ht => ?_⟩
        rcases h4 last ht with ⟨_, b⟩ | ⟨_, e, he, hb, hq⟩
        · exact b rfl
        · omega
      · rw [if_neg hlast] at k2
        refine ⟨base + j, k2, by omega, fun ht => ?_⟩
        rcases h4 (base + j) ht with ⟨b, _⟩ | ⟨b, _⟩ <;> omega
     obtain ⟨d, hd, hd1, hd2⟩ := hdst
     unfold Oper.apart
     rw [h2, hd]
     simp only [Bool.and_eq_true, Bool.not_eq_true', bne_iff_ne, ne_eq, Option.some.injEq]
     refine ⟨⟨?_, hd1⟩, ?_⟩
     · rw [← Bool.not_eq_true, List.contains_iff_mem]; exact hno
     · rw [← Bool.not_eq_true, List.contains_iff_mem]; exact hd2
   · by_cases hik : i = k
     · subst hik
       rw [Array.getElem?_setIfInBounds_self_of_lt (by omega)]
       simp
     · rw [Array.getElem?_setIfInBounds_ne (by omega), hi i hin]
       congr 1
       simp; omega
 unfold Region.lexB
 rw [hs, Bool.true_and]
 refine hx _ 0 _ (by omega) (by simpa using hn) fun i hi => ?_
 rw [Array.getElem?_replicate, if_pos (by omega)]
 simp
def linAll (md : Region.Mode) (base last n : Nat) (ops : Array Oper) : Bool := ops.size == n && (List.range n).all (linOp md base last n ops)
theorem lexB_lin {md : Region.Mode} {base last n : Nat} {ops : Array Oper} (hl : last < base) (h : linAll md base last n ops = true) : Region.lexB md ops = true := by
 unfold linAll at h
 simp only [Bool.and_eq_true, beq_iff_eq, List.all_eq_true, List.mem_range] at h
 exact lex_of h.1 hl h.2
end Go.Proofs.YtlkmccmbpnbgbaaGreat

namespace Go.Proofs.YtlkmccmbpnbgbaaGreat
set_option linter.unusedVariables false
open Go.RowKit Go.Maps
set_option maxRecDepth 100000

abbrev DV := DataW Value
def rawR (v : Value) : Option (DV × List MemPlace) := some (.held v, [])
theorem keyedS : Keyed Tryz.prog 9 := string_keyed Tryz.underlying9
theorem keyS_mk {s : ByteArray} (h : s.size ≤ maxLen) : keyOf Tryz.prog 9 (.string s) = some (.string s.data.toList) := Go.WideMaps.keyOf_string_mk Tryz.underlying9 h
abbrev kl (s : ByteArray) : Lit := .string s.data.toList
theorem kl_ne {a b : ByteArray} (h : b ≠ a) : kl b ≠ kl a := by
 intro e
 injection e with e
 exact h (by cases a; cases b; simp at e; simp [e])
theorem klLit (s : ByteArray) : WideAt.IsKeyLit (kl s) := trivial
def updS {α : Type} (f : ByteArray → Option α) (x : ByteArray) (o : Option α) : ByteArray → Option α := fun y => if y = x then o else f y
theorem updS_same {α : Type} (f : ByteArray → Option α) (x : ByteArray) (o : Option α) : updS f x o x = o := by simp [updS]
theorem updS_other {α : Type} {f : ByteArray → Option α} {x y : ByteArray} {o : Option α} (h : y ≠ x) : updS f x o y = f y := by simp [updS, h]
/-- The datum D says what f says. -/
structure SaysS (D : DV) (c : Nat) (f : ByteArray → Option Value) : Prop where
 has : ∀ x, Maps.has D (kl x) = (f x).isSome
 at_ : ∀ x v z, f x = some v → D.atKey (kl x) z = .held v
 size : Maps.size D = c
 tidy : Maps.Tidy D
theorem SaysS.empty : SaysS (.map []) 0 (fun _ => none) := ⟨fun _ => rfl, fun _ _ _ h => (by cases h), rfl, tidy_empty⟩
theorem SaysS.put {D : DV} {c : Nat} {f : ByteArray → Option Value} (h : SaysS D c f) (x : ByteArray) (v : Value) (hn : f x = none) : SaysS (D.put (kl x) (.held v)) (c + 1) (updS f x (some v)) := by
 refine ⟨fun y => ?_, fun y u z hu => ?_, ?_, h.tidy.put (klLit x) _⟩
 · by_cases e : y = x
   · subst e; rw [has_put_same h.tidy.isMap (klLit y), updS_same]; rfl
   · rw [has_put_other (kl_ne e), updS_other e, h.has]
 · by_cases e : y = x
   · subst e; rw [updS_same] at hu; injection hu with hu; subst hu; exact atKey_put_same h.tidy.isMap (klLit y) _ _
   · rw [updS_other e] at hu; rw [atKey_put_other (kl_ne e)]; exact h.at_ _ _ _ hu
 · rw [size_put h.tidy, h.has, hn, h.size]; rfl
def SM (w : World) (b n c : Nat) (f : ByteArray → Option Value) : Prop := ∃ D, w.ownsMap Tryz.prog 9 rawR b n D ∧ SaysS D c f
theorem SM.lt {w : World} {b n c : Nat} {f : ByteArray → Option Value} (h : SM w b n c f) : b < w.heap.size := by obtain ⟨D, h, _⟩ := h; exact h.lt
theorem SM.kept {w w' : World} {b n c : Nat} {f : ByteArray → Option Value} (h : SM w b n c f) (e : w'.heap[b]? = w.heap[b]?) : SM w' b n c f := by
 obtain ⟨D, ⟨es, clock, hb, F, hs, hD⟩, hS⟩ := h
 exact ⟨D, ⟨es, clock, e.trans hb, F, hs, hD⟩, hS⟩
theorem SM.below {w w' : World} {b n c : Nat} {f : ByteArray → Option Value} (h : SM w b n c f) (hb : Below w.heap.size w w') : SM w' b n c f := h.kept (hb.block b h.lt)
theorem SM.made (w : World) : SM (w.alloc (.map #[] 0)) w.heap.size 0 0 (fun _ => none) := ⟨_, World.ownsMap_made w Tryz.prog 9 rawR, SaysS.empty⟩
section
variable {w : World} {b n c : Nat} {f : ByteArray → Option Value} {t e : TypeId}
theorem SM.store (h : SM w b n c f) (ht : Tryz.prog.underlying t = some (.map 9 e)) (hn : n < maxLen) {x : ByteArray} (hx : x.size ≤ maxLen) (v : Value) (hf : f x = none) :
 ∃ w', (Instr.mapUpdate t (.map (some b)) (.string x) v).run Tryz.prog w = .ok () w' ∧ SM w' b (n + 1) (c + 1) (updS f x (some v)) ∧ w.mapTurned w' b := by
 obtain ⟨D, ho, hS⟩ := h
 obtain ⟨w', hrun, ho', ht'⟩ := ho.store keyedS ht hn (keyS_mk hx) (d := .held v) (ps := []) (val := v) rfl
 exact ⟨w', hrun, ⟨_, ho', hS.put x v hf⟩, ht'⟩
theorem SM.len (h : SM w b n c f) (ht : Tryz.prog.underlying t = some (.map 9 e)) (ty : TypeId) : (Builtin.len_ #[t] ty #[.map (some b)]).run Tryz.prog w = .ok (.int .i64 c) w := by
 obtain ⟨D, ho, hS⟩ := h
 rw [ho.len ht ty, hS.size]
end
end Go.Proofs.YtlkmccmbpnbgbaaGreat
