/-
  A HOUSE in memory.
-/
import Derived.Test.YtjacodbmmhnopaaGreatHSame
import Derived.Test.YtjacodbmmhnopaaGreatHLent
namespace Go.Proofs.YtjacodbmmhnopaaGreat
open Go.RowKit

/-- A house's lists and its last task's number. -/
structure Hs where
  A : Nat → Option Addr
  n : Nat → Nat
  c : Nat → Nat
  z : Int
def Hs.val (h : Hs) : Value := .agg #[.slice (h.A 0) (h.n 0) (h.c 0), .slice (h.A 1) (h.n 1) (h.c 1), .slice (h.A 2) (h.n 2) (h.c 2), .slice (h.A 3) (h.n 3) (h.c 3), .slice (h.A 4) (h.n 4) (h.c 4), .slice (h.A 5) (h.n 5) (h.c 5), .slice (h.A 6) (h.n 6) (h.c 6), .slice (h.A 7) (h.n 7) (h.c 7), .slice (h.A 8) (h.n 8) (h.c 8), .slice (h.A 9) (h.n 9) (h.c 9), .slice (h.A 10) (h.n 10) (h.c 10), .slice (h.A 11) (h.n 11) (h.c 11), .slice (h.A 12) (h.n 12) (h.c 12), .slice (h.A 13) (h.n 13) (h.c 13), .int .i64 h.z]
/-- How long each list may be. -/
def capOf : Nat → Nat
  | 0 => 80
  | 1 => 160
  | 2 => 40
  | 3 => 80
  | 4 => 300
  | 5 => 60
  | 6 => 60
  | 7 => 60
  | 8 => 160
  | 9 => 160
  | 10 => 80
  | 11 => 160
  | 12 => 120
  | 13 => 300
  | _ => 0
def Hs.small (h : Hs) : Prop := ∀ i, i < 14 → h.n i ≤ capOf i
end Go.Proofs.YtjacodbmmhnopaaGreat
