/-
  WHAT THE LAWS OF LAYER 6 ASK of Save, Load and Sectors: their contracts.
-/
import Derived.Test.YtkcickbkmedbmaaMAt
import Derived.Test.YtkcickbkmedbmaaSSlot
namespace Go.Proofs.Ytkcickbkmedbmaa
open Go.RowKit Go.Maps

/-- The sectors of a medium's files. -/
def mdT (s : St) : Ps.Md := fun f a => s.S (f : Int) (a : Int)

/-- What Save leaves: c, the raw writes done, the medium's next state. -/
structure Saved (w : World) (X : Nat → Prop) (b n : Nat) (s : St) (num : Nat) (data : ByteArray) (e : Ending) (w' : World) (X' : Nat → Prop) (s' : St) : Prop where
  only : Only X w w'
  new : ∀ k, X' k → X k ∨ w.heap.size ≤ k
  m : M w' X' b (n + Ps.partsN data.size) s'
  armed : s'.armed = s.armed
  case_ : (e = .returned (.int .i64 0) ∧ s'.off = false ∧ mdT s' = Ps.puts (mdT s) (num % 2) (Ps.secs num data) ∧ (s.armed = true → (Ps.partsN data.size : Int) ≤ s.left)) ∨
    (e = .returned (.int .i64 40) ∧ s.armed = true ∧ ∃ j, j < Ps.partsN data.size ∧ (j : Int) = s.left ∧ mdT s' = Ps.puts (mdT s) (num % 2) ((Ps.secs num data).take j))

/-- Load's answer, as a value. -/
def loadV : Option (Nat × List UInt8) → Value
  | none => .tuple #[.int .i64 0, .string ⟨#[]⟩, .int .i64 41]
  | some (n, x) => .tuple #[.int .i64 (n : Int), .string ⟨x.toArray⟩, .int .i64 0]

structure Cons : Prop where
  save : ∀ {w X b n s}, M w X b n s → s.off = false → n ≤ 500000 → ∀ (num : Nat) (data : ByteArray), 1 ≤ num → num ≤ 2147483647 → data.size ≤ 1000000 →
    Calls Try.prog 9 #[.pointer (some ⟨b, 0, none⟩), .int .i64 (num : Int), .string data] w fun e w' => ∃ X' s', Saved w X b n s num data e w' X' s'
  wrong : ∀ {w X b n s}, M w X b n s → ∀ (num : Int) (data : ByteArray), Wf num → (¬ (1 ≤ num ∧ num ≤ 2147483647) ∨ 1000000 < data.size) →
    Calls Try.prog 9 #[.pointer (some ⟨b, 0, none⟩), .int .i64 num, .string data] w fun e w' => e = .returned (.int .i64 43) ∧ Below w.heap.size w w'
  load : ∀ {w X b n s}, M w X b n s → s.off = false →
    Calls Try.prog 16 #[.pointer (some ⟨b, 0, none⟩)] w fun e w' => e = .returned (loadV (Ps.loadF (mdT s))) ∧ Below w.heap.size w w'
  sectors : ∀ (w : World) (k : Nat), k ≤ 140737488355328 → Calls Try.prog 23 #[.int .i64 (k : Int)] w fun e w' => e = .returned (.int .i64 ((Ps.partsN k : Nat) : Int)) ∧ Below w.heap.size w w'
  saveNil : ∀ (w : World) (num : Int) (data : ByteArray), Calls Try.prog 9 #[.pointer none, .int .i64 num, .string data] w fun e w' => e = .returned (.int .i64 2) ∧ Below w.heap.size w w'
  loadNil : ∀ (w : World), Calls Try.prog 16 #[.pointer none] w fun e w' => e = .returned (.tuple #[.int .i64 0, .string ⟨#[]⟩, .int .i64 2]) ∧ Below w.heap.size w w'
end Go.Proofs.Ytkcickbkmedbmaa
