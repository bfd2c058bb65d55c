/-
  THE WALK of the law NumsNaming.
-/
import Derived.Test.YtepgphjaejhcjaaNAwake
namespace Go.Proofs.Ytepgphjaejhcjaa.numsNaming
open Go.RowKit

theorem walk (a0 : ByteArray) (w : World) (w0 : a0.size ≤ maxLen) :
    Calls Try.prog 10 #[.string a0] w fun e w' => e = .returned (.bool true) ∧ Below w.heap.size w w' := by
  have h1 := Lib.hid (name_any a0 w w0)
  have h2 := Lib.hid (rname_any a0 w w0)
  clear w0
  go_enter Try.func10, Try.ntmps10
  go_wp2_with fail
  refine h1.out.mono ?_
  rintro e w1 ⟨rfl, rfl⟩
  go_wp2_with fail
  refine h2.out.mono ?_
  rintro e w1 ⟨rfl, rfl⟩
  go_wp2_with fail
  refine (awake_any _).mono ?_
  rintro e w1 ⟨rfl, hb⟩
  go_wp2_with fail
  go_ret
  exact ⟨rfl, hb⟩
end Go.Proofs.Ytepgphjaejhcjaa.numsNaming
