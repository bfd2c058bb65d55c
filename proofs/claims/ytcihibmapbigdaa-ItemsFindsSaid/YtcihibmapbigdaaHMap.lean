/-
  MAPS KEYED BY TEXTS, read as functions: 'SM w b n c f': block b of w is a map of at most n entries, of just c; f says what stands at each key.
-/
import Derived.Test.YtcihibmapbigdaaHBase
import Derived.Maps.OwnSet
import Derived.Maps.OwnOps
import Derived.Maps.Own
import Derived.Lib.Hide
import Derived.WalkKit
namespace Go.Proofs.Ytcihibmapbigdaa
set_option linter.unusedVariables false
open Go.RowKit Go.Maps
set_option maxRecDepth 100000

abbrev DV := DataW Value
def rawR (v : Value) : Option (DV × List MemPlace) := some (.held v, [])
theorem rawR_inv {v : Value} {d : DV} {ps : List MemPlace} (h : rawR v = some (d, ps)) : d = .held v := by
  unfold rawR at h; injection h with h; injection h with h1 h2; exact h1.symm
theorem keyedS : Keyed Try.prog 9 := string_keyed Try.underlying9
theorem keyS_mk {s : ByteArray} (h : s.size ≤ maxLen) : keyOf Try.prog 9 (.string s) = some (.string s.data.toList) := Go.WideMaps.keyOf_string_mk Try.underlying9 h
abbrev kl (s : ByteArray) : Lit := .string s.data.toList
theorem kl_ne {a b : ByteArray} (h : b ≠ a) : kl b ≠ kl a := by
  intro e
  injection e with e
  exact h (by cases a; cases b; simp at e; simp [e])
theorem klLit (s : ByteArray) : WideAt.IsKeyLit (kl s) := trivial
def updS {α : Type} (f : ByteArray → Option α) (x : ByteArray) (o : Option α) : ByteArray → Option α := fun y => if y = x then o else f y
theorem updS_same {α : Type} (f : ByteArray → Option α) (x : ByteArray) (o : Option α) : updS f x o x = o := by simp [updS]
theorem updS_other {α : Type} {f : ByteArray → Option α} {x y : ByteArray} {o : Option α} (h : y ≠ x) : updS f x o y = f y := by simp [updS, h]
/-- The datum D says what f says. -/
structure SaysS (D : DV) (c : Nat) (f : ByteArray → Option Value) : Prop where
  has : ∀ x, Maps.has D (kl x) = (f x).isSome
  at_ : ∀ x v z, f x = some v → D.atKey (kl x) z = .held v
  size : Maps.size D = c
  tidy : Maps.Tidy D
theorem SaysS.empty : SaysS (.map []) 0 (fun _ => none) := ⟨fun _ => rfl, fun _ _ _ h => (by cases h), rfl, tidy_empty⟩
theorem SaysS.put {D : DV} {c : Nat} {f : ByteArray → Option Value} (h : SaysS D c f) (x : ByteArray) (v : Value) (hn : f x = none) : SaysS (D.put (kl x) (.held v)) (c + 1) (updS f x (some v)) := by
  refine ⟨fun y => ?_, fun y u z hu => ?_, ?_, h.tidy.put (klLit x) _⟩
  · by_cases e : y = x
    · subst e; rw [has_put_same h.tidy.isMap (klLit y), updS_same]; rfl
    · rw [has_put_other (kl_ne e), updS_other e, h.has]
  · by_cases e : y = x
    · subst e; rw [updS_same] at hu; injection hu with hu; subst hu; exact atKey_put_same h.tidy.isMap (klLit y) _ _
    · rw [updS_other e] at hu; rw [atKey_put_other (kl_ne e)]; exact h.at_ _ _ _ hu
  · rw [size_put h.tidy, h.has, hn, h.size]; rfl
def SM (w : World) (b n c : Nat) (f : ByteArray → Option Value) : Prop := ∃ D, w.ownsMap Try.prog 9 rawR b n D ∧ SaysS D c f
theorem SM.lt {w : World} {b n c : Nat} {f : ByteArray → Option Value} (h : SM w b n c f) : b < w.heap.size := by obtain ⟨D, h, _⟩ := h; exact h.lt
theorem SM.kept {w w' : World} {b n c : Nat} {f : ByteArray → Option Value} (h : SM w b n c f) (e : w'.heap[b]? = w.heap[b]?) : SM w' b n c f := by
  obtain ⟨D, ⟨es, clock, hb, F, hs, hD⟩, hS⟩ := h
  exact ⟨D, ⟨es, clock, e.trans hb, F, hs, hD⟩, hS⟩
theorem SM.below {w w' : World} {b n c : Nat} {f : ByteArray → Option Value} (h : SM w b n c f) (hb : Below w.heap.size w w') : SM w' b n c f := h.kept (hb.block b h.lt)
theorem SM.made (w : World) : SM (w.alloc (.map #[] 0)) w.heap.size 0 0 (fun _ => none) := ⟨_, World.ownsMap_made w Try.prog 9 rawR, SaysS.empty⟩
/-- A map's block is no block of cells. -/
theorem SM.ne_cells {w : World} {b j n c : Nat} {f : ByteArray → Option Value} (h : SM w j n c f) {cs : Array Value} {t : TypeId} {fr : Nat × Nat} (hb : w.heap[b]? = some (.cells cs t fr)) : j ≠ b := by
  obtain ⟨D, ⟨es, clock, hj, _⟩, _⟩ := h
  rintro rfl; rw [hj] at hb; cases hb
theorem SM.ne_cell {w : World} {j n c : Nat} {f : ByteArray → Option Value} (h : SM w j n c f) {a : Addr} {u : Value} (hb : w.cell? a = some u) : a.block ≠ j := by
  obtain ⟨D, ⟨es, clock, hj, _⟩, _⟩ := h
  rintro e
  rw [← e] at hj
  simp [World.cell?, hj] at hb
section
variable {w : World} {b n c : Nat} {f : ByteArray → Option Value} {t e : TypeId}
theorem SM.look (h : SM w b n c f) (ht : Try.prog.underlying t = some (.map 9 e)) {z : Value} (hz : (zeroValue e).run Try.prog w = .ok z w) {x : ByteArray} (hx : x.size ≤ maxLen) :
    (Instr.lookup t (.map (some b)) (.string x) false).run Try.prog w = .ok ((f x).getD z) w := by
  obtain ⟨D, ho, hS⟩ := h
  obtain ⟨v, ps, hrun, hv⟩ := ho.lookup keyedS ht hz (zd := .held z) (zp := []) rfl (keyS_mk hx)
  rw [hrun]
  have hd := rawR_inv hv
  cases hf : f x with
  | none =>
    rw [atKey_of_not_has (by rw [hS.has, hf]; rfl)] at hd
    injection hd with hd
    rw [hd]; rfl
  | some u =>
    rw [hS.at_ x u _ hf] at hd
    injection hd with hd
    rw [hd]; rfl
theorem SM.look_ok (h : SM w b n c f) (ht : Try.prog.underlying t = some (.map 9 e)) {z : Value} (hz : (zeroValue e).run Try.prog w = .ok z w) {x : ByteArray} (hx : x.size ≤ maxLen) :
    (Instr.lookup t (.map (some b)) (.string x) true).run Try.prog w = .ok (.tuple #[(f x).getD z, .bool (f x).isSome]) w := by
  obtain ⟨D, ho, hS⟩ := h
  obtain ⟨v, ps, hrun, hv⟩ := ho.look_ok keyedS ht hz (zd := .held z) (zp := []) rfl (keyS_mk hx)
  rw [hrun, hS.has]
  have hd := rawR_inv hv
  cases hf : f x with
  | none =>
    rw [atKey_of_not_has (by rw [hS.has, hf]; rfl)] at hd
    injection hd with hd
    rw [hd]; rfl
  | some u =>
    rw [hS.at_ x u _ hf] at hd
    injection hd with hd
    rw [hd]; rfl
theorem SM.store (h : SM w b n c f) (ht : Try.prog.underlying t = some (.map 9 e)) (hn : n < maxLen) {x : ByteArray} (hx : x.size ≤ maxLen) (v : Value) (hf : f x = none) :
    ∃ w', (Instr.mapUpdate t (.map (some b)) (.string x) v).run Try.prog w = .ok () w' ∧ SM w' b (n + 1) (c + 1) (updS f x (some v)) ∧ w.mapTurned w' b := by
  obtain ⟨D, ho, hS⟩ := h
  obtain ⟨w', hrun, ho', ht'⟩ := ho.store keyedS ht hn (keyS_mk hx) (d := .held v) (ps := []) (val := v) rfl
  exact ⟨w', hrun, ⟨_, ho', hS.put x v hf⟩, ht'⟩
theorem SM.len (h : SM w b n c f) (ht : Try.prog.underlying t = some (.map 9 e)) (ty : TypeId) : (Builtin.len_ #[t] ty #[.map (some b)]).run Try.prog w = .ok (.int .i64 c) w := by
  obtain ⟨D, ho, hS⟩ := h
  rw [ho.len ht ty, hS.size]
end
end Go.Proofs.Ytcihibmapbigdaa
