/-
  MAPS KEYED BY INTS, read as functions: 'IM w b n f': block b of w is a map of at most n entries; f says what stands at each key. What a call may turn: 'Only X w w''.
-/
import Derived.Test.YtkcickbkmedbmaaChecked
import Derived.Maps.OwnSet
import Derived.Maps.OwnOps
import Derived.Maps.RangeWalk
import Derived.Maps.Ext
import Derived.Lib.SlKeysI
import Derived.Lib.Hide
import Derived.WalkKit
namespace Go.Proofs.Ytkcickbkmedbmaa
open Go.RowKit Go.Maps
set_option maxRecDepth 100000

abbrev DV := DataW Value
def rawR (v : Value) : Option (DV × List MemPlace) := some (.held v, [])
theorem rawR_inv {v : Value} {d : DV} {ps : List MemPlace} (h : rawR v = some (d, ps)) : d = .held v := by
  unfold rawR at h; injection h with h; injection h with h1 h2; exact h1.symm

def Wf (x : Int) : Prop := -9223372036854775808 ≤ x ∧ x ≤ 9223372036854775807
theorem Wf.lit {x : Int} (h : Wf x) : (Lit.int .i64 x).wf = true := by
  have hlo : IntKind.i64.min = -9223372036854775808 := by decide
  have hhi : IntKind.i64.max = 9223372036854775807 := by decide
  simp [Lit.wf, hlo, hhi]; exact h
theorem Wf.of_lit {x : Int} (h : (Lit.int .i64 x).wf = true) : Wf x := by
  have hlo : IntKind.i64.min = -9223372036854775808 := by decide
  have hhi : IntKind.i64.max = 9223372036854775807 := by decide
  simp [Lit.wf, hlo, hhi] at h; exact h

theorem keyed : Keyed Try.prog 3 := int_keyed Try.underlying3
theorem key_mk {x : Int} (h : Wf x) : keyOf Try.prog 3 (.int .i64 x) = some (.int .i64 x) := keyOf_int_mk Try.underlying3 h.lit

/-- The datum D says what f says. -/
structure Says (D : DV) (f : Int → Option Value) : Prop where
  isMap : IsMap D
  has : ∀ x, Maps.has D (.int .i64 x) = (f x).isSome
  at_ : ∀ x v z, f x = some v → D.atKey (.int .i64 x) z = .held v

def upd {α : Type} (f : Int → Option α) (x : Int) (o : Option α) : Int → Option α := fun y => if y = x then o else f y
theorem upd_same {α : Type} (f : Int → Option α) (x : Int) (o : Option α) : upd f x o x = o := by simp [upd]
theorem upd_other {α : Type} {f : Int → Option α} {x y : Int} {o : Option α} (h : y ≠ x) : upd f x o y = f y := by simp [upd, h]

theorem Says.empty : Says (.map []) (fun _ => none) := ⟨⟨_, rfl⟩, fun _ => rfl, fun _ _ _ h => by cases h⟩
theorem keyLit (x : Int) : WideAt.IsKeyLit (.int .i64 x) := trivial
theorem lit_ne {x y : Int} (h : y ≠ x) : (Lit.int .i64 y) ≠ (Lit.int .i64 x) := fun e => h (by cases e; rfl)
theorem Says.put {D : DV} {f : Int → Option Value} (h : Says D f) (x : Int) (v : Value) : Says (D.put (.int .i64 x) (.held v)) (upd f x (some v)) := by
  refine ⟨h.isMap.put _ _, fun y => ?_, fun y u z hu => ?_⟩
  · by_cases e : y = x
    · subst e; rw [has_put_same h.isMap (keyLit y), upd_same]; rfl
    · rw [has_put_other (lit_ne e), upd_other e, h.has]
  · by_cases e : y = x
    · subst e; rw [upd_same] at hu; injection hu with hu; subst hu; exact atKey_put_same h.isMap (keyLit y) _ _
    · rw [upd_other e] at hu; rw [atKey_put_other (lit_ne e)]; exact h.at_ _ _ _ hu
theorem Says.del {D : DV} {f : Int → Option Value} (h : Says D f) (x : Int) : Says (D.del (.int .i64 x)) (upd f x none) := by
  refine ⟨h.isMap.del _, fun y => ?_, fun y u z hu => ?_⟩
  · by_cases e : y = x
    · subst e; rw [has_del_same, upd_same]; rfl
    · rw [has_del_other (lit_ne e), upd_other e, h.has]
  · by_cases e : y = x
    · subst e; rw [upd_same] at hu; cases hu
    · rw [upd_other e] at hu; rw [atKey_del_other (lit_ne e)]; exact h.at_ _ _ _ hu

/-- BLOCK b OF w IS A MAP OF AT MOST n ENTRIES, AT EACH KEY OF WHICH f SAYS WHAT STANDS THERE. -/
def IM (w : World) (b n : Nat) (f : Int → Option Value) : Prop := ∃ D, w.ownsMap Try.prog 3 rawR b n D ∧ Says D f

theorem IM.lt {w : World} {b n : Nat} {f : Int → Option Value} (h : IM w b n f) : b < w.heap.size := by obtain ⟨D, h, _⟩ := h; exact h.lt
theorem IM.kept {w w' : World} {b n : Nat} {f : Int → Option Value} (h : IM w b n f) (e : w'.heap[b]? = w.heap[b]?) : IM w' b n f := by
  obtain ⟨D, ⟨es, clock, hb, F, hs, hD⟩, hS⟩ := h
  exact ⟨D, ⟨es, clock, e.trans hb, F, hs, hD⟩, hS⟩
theorem IM.mono {w : World} {b n n' : Nat} {f : Int → Option Value} (h : IM w b n f) (hn : n ≤ n') : IM w b n' f := by
  obtain ⟨D, h, hS⟩ := h; exact ⟨D, h.mono hn, hS⟩
theorem IM.congr {w : World} {b n : Nat} {f g : Int → Option Value} (h : IM w b n f) (e : ∀ x, f x = g x) : IM w b n g := by
  obtain rfl : f = g := funext e; exact h
theorem IM.made (w : World) (n : Nat) : IM (w.alloc (.map #[] 0)) w.heap.size n (fun _ => none) := ⟨_, (World.ownsMap_made w Try.prog 3 rawR).mono (Nat.zero_le _), Says.empty⟩
/-- A map's block is no block of cells. -/
theorem IM.ne_cells {w : World} {b j n : Nat} {f : Int → Option Value} (h : IM w j n f) {c : Array Value} {t : TypeId} {fr : Nat × Nat} (hb : w.heap[b]? = some (.cells c t fr)) : j ≠ b := by
  obtain ⟨D, ⟨es, clock, hj, _⟩, _⟩ := h
  rintro rfl; rw [hj] at hb; cases hb

section
variable {w : World} {b n : Nat} {f : Int → Option Value} {t e : TypeId}

theorem IM.look (h : IM w b n f) (ht : Try.prog.underlying t = some (.map 3 e)) {z : Value} (hz : (zeroValue e).run Try.prog w = .ok z w) {x : Int} (hx : Wf x) :
    (Instr.lookup t (.map (some b)) (.int .i64 x) false).run Try.prog w = .ok ((f x).getD z) w := by
  obtain ⟨D, ho, hS⟩ := h
  obtain ⟨v, ps, hrun, hv⟩ := ho.lookup keyed ht hz (zd := .held z) (zp := []) rfl (key_mk hx)
  rw [hrun]
  have hd := rawR_inv hv
  cases hf : f x with
  | none =>
    rw [atKey_of_not_has (by rw [hS.has, hf]; rfl)] at hd
    injection hd with hd
    rw [hd]; rfl
  | some u =>
    rw [hS.at_ x u _ hf] at hd
    injection hd with hd
    rw [hd]; rfl

theorem IM.look_ok (h : IM w b n f) (ht : Try.prog.underlying t = some (.map 3 e)) {z : Value} (hz : (zeroValue e).run Try.prog w = .ok z w) {x : Int} (hx : Wf x) :
    (Instr.lookup t (.map (some b)) (.int .i64 x) true).run Try.prog w = .ok (.tuple #[(f x).getD z, .bool (f x).isSome]) w := by
  obtain ⟨D, ho, hS⟩ := h
  obtain ⟨v, ps, hrun, hv⟩ := ho.look_ok keyed ht hz (zd := .held z) (zp := []) rfl (key_mk hx)
  rw [hrun, hS.has]
  have hd := rawR_inv hv
  cases hf : f x with
  | none =>
    rw [atKey_of_not_has (by rw [hS.has, hf]; rfl)] at hd
    injection hd with hd
    rw [hd]; rfl
  | some u =>
    rw [hS.at_ x u _ hf] at hd
    injection hd with hd
    rw [hd]; rfl

theorem look_nil (ht : Try.prog.underlying t = some (.map 3 e)) {z : Value} (hz : (zeroValue e).run Try.prog w = .ok z w) {x : Int} (hx : Wf x) :
    (Instr.lookup t (.map none) (.int .i64 x) false).run Try.prog w = .ok z w := Maps.look_nil false keyed ht hz (key_mk hx)
theorem look_ok_nil (ht : Try.prog.underlying t = some (.map 3 e)) {z : Value} (hz : (zeroValue e).run Try.prog w = .ok z w) {x : Int} (hx : Wf x) :
    (Instr.lookup t (.map none) (.int .i64 x) true).run Try.prog w = .ok (.tuple #[z, .bool false]) w := Maps.look_nil true keyed ht hz (key_mk hx)

theorem IM.store (h : IM w b n f) (ht : Try.prog.underlying t = some (.map 3 e)) (hn : n < maxLen) {x : Int} (hx : Wf x) (v : Value) :
    ∃ w', (Instr.mapUpdate t (.map (some b)) (.int .i64 x) v).run Try.prog w = .ok () w' ∧ IM w' b (n + 1) (upd f x (some v)) ∧ w.mapTurned w' b := by
  obtain ⟨D, ho, hS⟩ := h
  obtain ⟨w', hrun, ho', ht'⟩ := ho.store keyed ht hn (key_mk hx) (d := .held v) (ps := []) (val := v) rfl
  exact ⟨w', hrun, ⟨_, ho', hS.put x v⟩, ht'⟩

theorem IM.drop (h : IM w b n f) (ht : Try.prog.underlying t = some (.map 3 e)) {x : Int} (hx : Wf x) (ty : TypeId) :
    ∃ w', (Builtin.delete_ #[t, 3] ty #[.map (some b), .int .i64 x]).run Try.prog w = .ok (.tuple #[]) w' ∧ IM w' b n (upd f x none) ∧ w.mapTurned w' b := by
  obtain ⟨D, ho, hS⟩ := h
  obtain ⟨w', hrun, ho', ht'⟩ := ho.drop keyed ht (key_mk hx) ty
  exact ⟨w', hrun, ⟨_, ho', hS.del x⟩, ht'⟩

/-- The keys, as the library hands them on. -/
theorem IM.keys {D : DV} (ho : w.ownsMap Try.prog 3 rawR b n D) (hS : Says D f) {ss : List Int} (hp : ss.Perm (intKeys D)) : ss.Nodup ∧ ∀ x, x ∈ ss ↔ (f x).isSome = true := by
  obtain ⟨es, rfl, hpw, hk⟩ := ho.entries keyed
  have hwf := Go.intKeys_wf ho Try.underlying3
  have hint : ∀ p ∈ es, ∃ x, p.1 = .int .i64 x := by
    obtain ⟨es0, clock, hb, F, hs, hD⟩ := ho
    intro p hp
    injection hD with hD
    rw [hD] at hp
    have hp := mem_sorted.1 hp
    obtain ⟨y, hy, rfl⟩ := List.mem_map.1 hp
    obtain ⟨r, hr⟩ := F.reads y hy
    have := WideElems.rd_key hr
    obtain ⟨x, _, hx, _⟩ := Go.Maps.keyOf_i64 Try.underlying3 this
    exact ⟨x, by rw [WideElems.rg_of hr]; exact hx⟩
  have hnd : (intKeys (.map es : DV)).Nodup := by
    show (es.map fun p => intOf p.1).Nodup
    refine List.pairwise_map.2 (hpw.imp_of_mem fun {p q} hp' hq' hne e => hne ?_)
    obtain ⟨a, ha⟩ := hint p hp'
    obtain ⟨c, hc⟩ := hint q hq'
    rw [ha, hc] at e ⊢
    exact congrArg _ e
  refine ⟨hp.nodup_iff.2 hnd, fun x => ?_⟩
  rw [hp.mem_iff, ← hS.has x, has_eq, List.any_eq_true]
  show x ∈ es.map (fun p => intOf p.1) ↔ _
  rw [List.mem_map]
  constructor
  · rintro ⟨p, hp', rfl⟩
    obtain ⟨a, ha⟩ := hint p hp'
    exact ⟨p, hp', by rw [ha]; simp [Lit.sameKey, intOf]⟩
  · rintro ⟨p, hp', hs⟩
    obtain ⟨a, ha⟩ := hint p hp'
    rw [ha] at hs
    exact ⟨p, hp', by rw [ha]; simpa [Lit.sameKey, intOf] using hs⟩
end

/-- The step of a loop over a map keyed by ints, whatever its elements. -/
theorem wpList_next_raw (w : World) {ops : Array Oper} {rest : List Oper} {o : Oper} {a : Act} {Q : Exit → Act → World → Prop} (hg : o.guard = none) (it : Operand) (hop : o.op = Op.next it false)
    (b r n : Nat) (D : DV) (left : Lit → Bool) (cnt : Nat) (hit : a.eval it = .pointer (some ⟨r, 0, none⟩)) (h : w.ranges Try.prog 3 rawR b r n D left cnt)
    (hDone : (∀ kl, left kl = false) → wpList Try.prog ops Q rest (a.put o.dst (.tuple #[.bool false])) w)
    (hMore : ∀ (x : Int) (v : Value) (w' : World) (cnt' : Nat), Wf x → left (.int .i64 x) = true → (∀ zd, D.atKey (.int .i64 x) zd = .held v) → w'.ranges Try.prog 3 rawR b r n D (fun z => left z && !z.sameKey (.int .i64 x)) cnt' → cnt' < cnt →
      w.grownBy w' (some r) → (Instr.entry (.pointer (some ⟨r, 0, none⟩))).run Try.prog w' = .ok (.tuple #[.int .i64 x, v]) w' → wpList Try.prog ops Q rest (a.put o.dst (.tuple #[.bool true, .int .i64 x, v])) w') :
    wpList Try.prog ops Q (o :: rest) a w := by
  refine wpList_plain hg fun K' hK' => ?_
  unfold Oper.wp
  rcases h.next keyed o.type with ⟨_, hl, hrun⟩ | ⟨key, v, kl, y, w', cnt', hkey, hlk, hv, hat, hrun, hrg, hlt, hgr, _, hen⟩
  · simp [execOp, hop, hit, hrun, Result.andThen]
    exact hK' _ _ (hDone hl)
  · obtain ⟨x, rfl, rfl, hwx⟩ := Maps.keyOf_int_inv Try.underlying3 hkey
    obtain ⟨d, ps⟩ := y
    have hd := rawR_inv hv
    subst hd
    simp [execOp, hop, hit, hrun, Result.andThen]
    exact hK' _ _ (hMore x v w' cnt' (Wf.of_lit hwx) hlk hat hrg hlt hgr hen)

/-! ### what may turn -/
/-- Of what lay in w only blocks of which X holds may have turned. -/
structure Only (X : Nat → Prop) (w w' : World) : Prop where
  os : w'.os = w.os
  tape : w'.tape = w.tape
  output : w'.output = w.output
  size : w.heap.size ≤ w'.heap.size
  block : ∀ k, k < w.heap.size → ¬ X k → w'.heap[k]? = w.heap[k]?

theorem Only.refl (X : Nat → Prop) (w : World) : Only X w w := ⟨rfl, rfl, rfl, Nat.le_refl _, fun _ _ _ => rfl⟩
theorem Only.trans {X Y Z : Nat → Prop} {a b c : World} (h : Only X a b) (k : Only Y b c) (hX : ∀ i, X i → Z i) (hY : ∀ i, Y i → i < a.heap.size → Z i) : Only Z a c :=
  ⟨k.os.trans h.os, k.tape.trans h.tape, k.output.trans h.output, Nat.le_trans h.size k.size, fun i hi hz => (k.block i (Nat.lt_of_lt_of_le hi h.size) (fun y => hz (hY i y hi))).trans (h.block i hi (fun x => hz (hX i x)))⟩
theorem Only.tr {X : Nat → Prop} {a b c : World} (h : Only X a b) (k : Only X b c) : Only X a c := h.trans k (fun _ x => x) (fun _ x _ => x)
theorem Only.mono {X Y : Nat → Prop} {a b : World} (h : Only X a b) (hX : ∀ i, X i → i < a.heap.size → Y i) : Only Y a b :=
  ⟨h.os, h.tape, h.output, h.size, fun i hi hy => h.block i hi (fun x => hy (hX i x hi))⟩
theorem Only.below {X : Nat → Prop} {a b : World} (h : Below a.heap.size a b) : Only X a b := ⟨h.os, h.tape, h.output, h.size, fun i hi _ => h.block i hi⟩
theorem Only.to_below {X : Nat → Prop} {a b : World} {B : Nat} (h : Only X a b) (hB : B ≤ a.heap.size) (hX : ∀ i, X i → i < a.heap.size → B ≤ i) : Below B a b :=
  ⟨h.os, h.tape, h.output, h.size, fun i hi => h.block i (by omega) (fun x => by have := hX i x (by omega); omega)⟩
theorem Only.turned {X : Nat → Prop} {a b : World} {j : Nat} (h : a.mapTurned b j) (hX : X j) : Only X a b := by
  have hg := h.grown
  exact ⟨hg.os, hg.tape, hg.output, hg.size, fun i hi hx => hg.block i hi (fun e => hx (by injection e with e; subst e; exact hX))⟩
theorem Only.setCell {X : Nat → Prop} (w : World) {a : Addr} (hX : X a.block) (u : Value) : Only X w (w.setCell a u) :=
  ⟨rfl, rfl, rfl, by simp [World.setCell], fun i _ hx => Below.heap_setCell _ _ _ _ (fun e => hx (e ▸ hX))⟩
theorem Only.set (w : World) (b o : Nat) (u : Value) : Only (fun i => i = b) w (w.setCell ⟨b, o, none⟩ u) := Only.setCell (X := fun i => i = b) w (a := ⟨b, o, none⟩) rfl u
theorem Only.alloc {X : Nat → Prop} (w : World) (o : Obj) : Only X w (w.alloc o) := Only.below ((Below.refl _ _).alloc (Nat.le_refl _) o)
theorem Only.drew {X : Nat → Prop} {a w : World} (h : Only X a w) : Only X a w.drew := ⟨h.os, h.tape, h.output, h.size, h.block⟩
end Go.Proofs.Ytkcickbkmedbmaa
