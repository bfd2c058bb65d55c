/-
  THE MEDIUM IN MEMORY: its struct's block, its map of files, a map of sectors for each file.
-/
import Derived.Test.YtkcickbkmedbmaaMMap
namespace Go.Proofs.Ytkcickbkmedbmaa
open Go.RowKit Go.Maps

/-- Block b is a Media whose map of files is block bo. -/
def MS (w : World) (b bo : Nat) (off armed : Bool) (left writes : Int) : Prop :=
  w.heap[b]? = some (.cells #[.map (some bo), .bool off, .bool armed, .int .i64 left, .int .i64 writes] 52 (0, 0))

theorem cell_of_block {w : World} {b o : Nat} {c : Array Value} {t : TypeId} {fr : Nat × Nat} (h : w.heap[b]? = some (.cells c t fr)) : w.cell? ⟨b, o, none⟩ = c[o]? := by
  simp [World.cell?, h]
theorem frozen_of_block {w : World} {b o : Nat} {c : Array Value} {t : TypeId} (h : w.heap[b]? = some (.cells c t (0, 0))) : w.frozen? ⟨b, o, none⟩ = false := by
  simp [World.frozen?, h]
theorem block_setCell {w : World} {b o : Nat} {c : Array Value} {t : TypeId} {fr : Nat × Nat} (h : w.heap[b]? = some (.cells c t fr)) (v : Value) : (w.setCell ⟨b, o, none⟩ v).heap[b]? = some (.cells (c.setIfInBounds o v) t fr) := by
  simp only [World.setCell, Array.getElem?_modify, h, Option.map_some]
  rfl
theorem block_setCell_other {w : World} {b k o : Nat} (hk : k ≠ b) (v : Value) : (w.setCell ⟨b, o, none⟩ v).heap[k]? = w.heap[k]? := Below.heap_setCell _ _ _ _ hk

theorem MS.lt {w : World} {b bo : Nat} {off armed : Bool} {left writes : Int} (h : MS w b bo off armed left writes) : b < w.heap.size := (Array.getElem?_eq_some_iff.1 h).1
theorem MS.kept {w w' : World} {b bo : Nat} {off armed : Bool} {left writes : Int} (h : MS w b bo off armed left writes) (e : w'.heap[b]? = w.heap[b]?) : MS w' b bo off armed left writes := e.trans h
/-- The five cells, and that none of them is frozen. -/
structure Cl (w : World) (b bo : Nat) (off armed : Bool) (left writes : Int) : Prop where
  c0 : w.cell? ⟨b, 0, none⟩ = some (.map (some bo))
  c1 : w.cell? ⟨b, 1, none⟩ = some (.bool off)
  c2 : w.cell? ⟨b, 2, none⟩ = some (.bool armed)
  c3 : w.cell? ⟨b, 3, none⟩ = some (.int .i64 left)
  c4 : w.cell? ⟨b, 4, none⟩ = some (.int .i64 writes)
  f0 : w.frozen? ⟨b, 0, none⟩ = false
  f1 : w.frozen? ⟨b, 1, none⟩ = false
  f2 : w.frozen? ⟨b, 2, none⟩ = false
  f3 : w.frozen? ⟨b, 3, none⟩ = false
  f4 : w.frozen? ⟨b, 4, none⟩ = false
theorem MS.cl {w : World} {b bo : Nat} {off armed : Bool} {left writes : Int} (h : MS w b bo off armed left writes) : Cl w b bo off armed left writes := by
  unfold MS at h
  exact ⟨by rw [cell_of_block h]; rfl, by rw [cell_of_block h]; rfl, by rw [cell_of_block h]; rfl, by rw [cell_of_block h]; rfl, by rw [cell_of_block h]; rfl,
    frozen_of_block h, frozen_of_block h, frozen_of_block h, frozen_of_block h, frozen_of_block h⟩

/-- What a raw write's leave answers: the error, off, left, writes. -/
def spendF (off armed valid : Bool) (left writes : Int) : Int × Bool × Int × Int :=
  if off then (40, off, left, writes) else if !valid then (42, off, left, writes) else if armed && left == 0 then (40, true, left, writes)
  else (0, off, if armed then left - 1 else left, writes + 1)

def SpendPost (b bo : Nat) (off armed valid : Bool) (left writes : Int) (w : World) (e : Ending) (w' : World) : Prop :=
  ∃ c off' left' writes', spendF off armed valid left writes = (c, off', left', writes') ∧ e = .returned (.int .i64 c) ∧ MS w' b bo off' armed left' writes' ∧ Only (fun i => i = b) w w'

/-! ### bytes -/
def bytesV (s : ByteArray) : List Value := s.data.toList.map fun b => Value.int .u8 b.toNat
theorem bytesV_length (s : ByteArray) : (bytesV s).length = s.size := by simp [bytesV]
def secV (s : ByteArray) : Value := .agg (bytesV s).toArray
theorem u8_inj {a b : UInt8} (h : Value.int .u8 (a.toNat : Int) = Value.int .u8 (b.toNat : Int)) : a = b := by
  injection h with _ h
  exact UInt8.toNat_inj.1 (by omega)

/-! ### the whole medium -/
structure St where
  S : Int → Int → Option ByteArray
  off : Bool
  armed : Bool
  left : Int
  writes : Int

def okAt (x a : Int) : Prop := (0 ≤ x ∧ x < 1048576) ∧ 0 ≤ a ∧ a < 65536

/-- What is so of every state that is reached with at most n raw writes. -/
structure St.Good (s : St) (n : Nat) : Prop where
  l0 : 0 ≤ s.left
  l1 : s.left ≤ 9223372036854775807
  w0 : 0 ≤ s.writes
  w1 : s.writes ≤ n
  dom : ∀ x a d, s.S x a = some d → okAt x a ∧ d.size = 64

/-- Block b of w is a Media in the state s; its blocks are those of which X holds; F: the blocks of the files. -/
structure Med (w : World) (b bo : Nat) (F : Int → Option Nat) (n : Nat) (s : St) : Prop where
  ms : MS w b bo s.off s.armed s.left s.writes
  files : IM w bo n (fun x => (F x).map fun j => Value.map (some j))
  inj : ∀ x y j, F x = some j → F y = some j → x = y
  ne : ∀ x j, F x = some j → j ≠ bo
  secs : ∀ x j, F x = some j → IM w j n (fun a => (s.S x a).map secV)
  none_ : ∀ x, F x = none → ∀ a, s.S x a = none
  some_ : ∀ x j, F x = some j → ∃ a d, s.S x a = some d

/-- The medium's blocks. -/
def own (b bo : Nat) (F : Int → Option Nat) (k : Nat) : Prop := k = b ∨ k = bo ∨ ∃ x, F x = some k

theorem Med.lt {w : World} {b bo : Nat} {F : Int → Option Nat} {n : Nat} {s : St} (h : Med w b bo F n s) : ∀ k, own b bo F k → k < w.heap.size := by
  rintro k (rfl | rfl | ⟨x, hx⟩)
  · exact h.ms.lt
  · exact h.files.lt
  · exact (h.secs x k hx).lt

theorem Med.bne {w : World} {b bo : Nat} {F : Int → Option Nat} {n : Nat} {s : St} (h : Med w b bo F n s) : bo ≠ b := h.files.ne_cells h.ms
theorem Med.fne {w : World} {b bo : Nat} {F : Int → Option Nat} {n : Nat} {s : St} (h : Med w b bo F n s) {x : Int} {j : Nat} (hj : F x = some j) : j ≠ b := (h.secs x j hj).ne_cells h.ms

theorem Med.kept {w w' : World} {b bo : Nat} {F : Int → Option Nat} {n : Nat} {s : St} (h : Med w b bo F n s) (e : ∀ k, own b bo F k → w'.heap[k]? = w.heap[k]?) : Med w' b bo F n s :=
  ⟨h.ms.kept (e b (.inl rfl)), h.files.kept (e bo (.inr (.inl rfl))), h.inj, h.ne, fun x j hj => (h.secs x j hj).kept (e j (.inr (.inr ⟨x, hj⟩))), h.none_, h.some_⟩

theorem Med.mono {w : World} {b bo : Nat} {F : Int → Option Nat} {n n' : Nat} {s : St} (h : Med w b bo F n s) (hn : n ≤ n') : Med w b bo F n' s :=
  ⟨h.ms, h.files.mono hn, h.inj, h.ne, fun x j hj => (h.secs x j hj).mono hn, h.none_, h.some_⟩

/-- Only the struct's block has turned. -/
theorem Med.struct {w w' : World} {b bo : Nat} {F : Int → Option Nat} {n : Nat} {s : St} (h : Med w b bo F n s) {off armed : Bool} {left writes : Int} (h' : MS w' b bo off armed left writes) (ho : Only (fun i => i = b) w w') :
    Med w' b bo F n { S := s.S, off := off, armed := armed, left := left, writes := writes } := by
  have keep : ∀ k, own b bo F k → k ≠ b → w'.heap[k]? = w.heap[k]? := fun k hk hne => ho.block k (h.lt k hk) hne
  exact ⟨h', h.files.kept (keep bo (.inr (.inl rfl)) h.bne), h.inj, h.ne, fun x j hj => (h.secs x j hj).kept (keep j (.inr (.inr ⟨x, hj⟩)) (h.fne hj)), h.none_, h.some_⟩
end Go.Proofs.Ytkcickbkmedbmaa
