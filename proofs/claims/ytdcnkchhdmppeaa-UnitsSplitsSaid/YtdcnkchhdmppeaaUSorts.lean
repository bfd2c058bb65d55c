/-
  CONTRACTS of slices.SortStableFunc over up to five units, and of the code's greatestFirst.
-/
import Derived.Test.YtdcnkchhdmppeaaUIns
namespace Go.Proofs.Ytdcnkchhdmppeaa
set_option linter.unusedVariables false
open Go.RowKit
open Pl (It)

/-- The call sorts that row. -/
def Sorts (B g n c : Nat) (l : List Pr) (v : Value) (w : World) (e : Ending) (w' : World) : Prop := e = .returned v ∧ w'.ownsRow B 23 2 (.slice (some ⟨g, 0, none⟩) n c) n (prC (sortU l).reverse).flatten ∧ Below B w w'

set_option maxRecDepth 100000 in
theorem stable_any (g n c B : Nat) (l : List Pr) (w : World) (hn : n = l.length) (hn1 : 1 ≤ n) (hn5 : n ≤ 5) (ho : w.ownsRow B 23 2 (.slice (some ⟨g, 0, none⟩) n c) n (prC l).flatten) (hB : B ≤ w.heap.size) :
    Calls Try.prog 25 #[.slice (some ⟨g, 0, none⟩) n c, .int .i64 n, .func (.func 23) #[] #[]] w (Sorts B g n c l (.tuple #[]) w) := by
  have HI := Lib.hid (insertion_any g n c B l w hn hn1 hn5 ho hB)
  clear ho hn
  go_enter Try.func25, Try.ntmps25
  go_wp2_with fail
  go_loopw [7, 8] (fun av bv wr => av = .int .i64 0 ∧ bv = .int .i64 20 ∧ Hid (wr = w)) (fun _ _ _ => 0)
  case atStart => exact ⟨rfl, rfl, Lib.hid rfl⟩
  case round =>
    obtain ⟨rfl, rfl, hw⟩ := hrel
    have hlt : ¬ (20 : Int) ≤ (n : Int) := by omega
    have hlt2 : ¬ (20 : Int) < (n : Int) := by omega
    go_wp2_with fail
    rw [hw.out]
    refine HI.out.mono ?_
    rintro e w1 ⟨rfl, ho1, hb1⟩
    have HO := Lib.hid ho1
    have HB := Lib.hid hb1
    clear ho1 hb1
    go_wp2_with fail
    go_loopw [6] (fun sv wr => sv = .int .i64 20 ∧ Hid (wr = w1)) (fun _ _ => 0)
    case atStart => exact ⟨rfl, Lib.hid rfl⟩
    case round =>
      obtain ⟨rfl, hw1⟩ := hrel
      go_wp2_with fail
      go_end0
      rw [hw1.out]
      exact ⟨rfl, HO.out, HB.out⟩
theorem sortst_any (g n c B : Nat) (l : List Pr) (w : World) (hn : n = l.length) (hn1 : 1 ≤ n) (hn5 : n ≤ 5) (ho : w.ownsRow B 23 2 (.slice (some ⟨g, 0, none⟩) n c) n (prC l).flatten) (hB : B ≤ w.heap.size) :
    Calls Try.prog 22 #[.slice (some ⟨g, 0, none⟩) n c, .func (.func 23) #[] #[]] w (Sorts B g n c l (.tuple #[]) w) := by
  have HI := Lib.hid (stable_any g n c B l w hn hn1 hn5 ho hB)
  clear ho hn
  go_enter Try.func22, Try.ntmps22
  go_wp2_with fail
  refine HI.out.mono ?_
  rintro e w1 ⟨rfl, ho1, hb1⟩
  have HO := Lib.hid ho1
  have HB := Lib.hid hb1
  clear ho1 hb1
  go_wp2_with fail
  go_end0
  exact ⟨rfl, HO.out, HB.out⟩
theorem greatest_any (g n c B : Nat) (l : List Pr) (w : World) (hn : n = l.length) (hn1 : 1 ≤ n) (hn5 : n ≤ 5) (ho : w.ownsRow B 23 2 (.slice (some ⟨g, 0, none⟩) n c) n (prC l).flatten) (hB : B ≤ w.heap.size) :
    Calls Try.prog 18 #[.slice (some ⟨g, 0, none⟩) n c] w (Sorts B g n c l (.slice (some ⟨g, 0, none⟩) n c) w) := by
  have HI := Lib.hid (sortst_any g n c B l w hn hn1 hn5 ho hB)
  clear ho hn
  go_enter Try.func18, Try.ntmps18
  go_wp2_with fail
  refine HI.out.mono ?_
  rintro e w1 ⟨rfl, ho1, hb1⟩
  have HO := Lib.hid ho1
  have HB := Lib.hid hb1
  clear ho1 hb1
  go_wp2_with fail
  go_ret
  exact ⟨rfl, HO.out, HB.out⟩
end Go.Proofs.Ytdcnkchhdmppeaa
