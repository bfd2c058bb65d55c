/-
  WORDS: strings.Compare; a thing's code; two results. (By wip/tools/gen_one.py.)
-/
import Derived.Test.YtjphjblcahadkaaGreatGT
import Derived.Test.YtjphjblcahadkaaGreatIPlain
import Derived.Test.YtjphjblcahadkaaGreatHHouse
import Derived.Laws.Externs
import Derived.BigQuiet
import Derived.Deep.RegionHeld3
namespace Go.Proofs.YtjphjblcahadkaaGreat
set_option linter.unusedVariables false
open Go.RowKit
open Pl (firstG findG putG overG)

set_option maxRecDepth 100000 in
theorem cmpstr_any (a b : ByteArray) (w : World) : Calls Tryz.prog 88 #[.string a, .string b] w fun e w' => e = .returned (.int .i64 (Pl.cmp a b)) ∧ w' = w := by
  have H := Lib.hid (Pl.compare_eq a b)
  go_enter Tryz.func88, Tryz.ntmps88
  go_wp2
  rw [run_callFunc_extern Tryz.func104 (by kernel_rfl) (by kernel_rfl) (by kernel_rfl) (e := Extern.BytealgCompare.compare) (by kernel_rfl), Lib.run_compareString]
  simp only [Result.andThen]
  rw [Oper.upon_value]
  go_wp2
  go_ret
  exact ⟨by rw [← H.out]; rfl, rfl⟩
theorem compare_any (a b : ByteArray) (w : World) : Calls Tryz.prog 60 #[.string a, .string b] w fun e w' => e = .returned (.int .i64 (Pl.cmp a b)) ∧ w' = w := by
  go_enter Tryz.func60, Tryz.ntmps60
  go_wp2_with fail
  refine (cmpstr_any a b _).mono ?_
  rintro e w' ⟨rfl, rfl⟩
  go_wp2_with fail
  go_ret
  exact ⟨rfl, rfl⟩
/-- A thing's code. -/
def codeOf : List Value → ByteArray
  | .string s :: _ => s
  | _ => ByteArray.empty
theorem store_func (P : Program) (w : World) (a : Addr) (m : Mode) (f : Fn) (x y : Array Value) : (store a (.func f x y) m).run P w = stored P w a (.func f x y) m := run_store P w a _ m rfl
/-- Two results: a struct's box, and a value. -/
theorem results_row_tmp {P : Program} {fn : Func} {p q : Tmp} {ty : TypeId} (h : fn.results = #[.cell p ty, .tmp q]) (tmps : Array Value) (w : World) (g : Nat) (t : TypeId) (cs : Array Value) (fr : Nat × Nat) (d : TypeDesc)
    (hp : tmps.getD p undef = .pointer (some ⟨g, 0, none⟩)) (hg : w.heap[g]? = some (.cells cs t fr))
    (hu : P.underlying ty = some d) (hd : (match d with | .struct _ | .array _ _ => true | _ => false) = true) (hi : (P.info? ty).map (·.size) = some cs.size) :
    (results fn tmps).run P w = .ok (.tuple #[.agg cs, tmps.getD q undef]) w := by
  have hp' : tmps[p]?.getD undef = .pointer (some ⟨g, 0, none⟩) := by simpa using hp
  simp [results, h, hp', asAddr, run_loadVar_row w g t ty cs fr d hg hu hd hi]
theorem eqv_of_lt {a b : ByteArray} (h : Pl.lt a b = true) : Pl.eqv a b = false := by
  rw [Bool.eq_false_iff]; intro e
  have := (Pl.eqv_iff a b).1 e
  subst this
  rw [Pl.lt_irrefl] at h; cases h
end Go.Proofs.YtjphjblcahadkaaGreat
