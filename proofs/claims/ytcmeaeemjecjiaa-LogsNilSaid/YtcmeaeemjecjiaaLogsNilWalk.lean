/-
  The walk of LogsNil.
-/
import Derived.Test.YtcmeaeemjecjiaaLAwake
namespace Go.Proofs.Ytcmeaeemjecjiaa
open Go.RowKit Go.Maps

set_option maxRecDepth 100000 in
theorem append_nil (d : ByteArray) (w : World) : Calls Try.prog 10 #[.pointer none, .string d] w fun e w' => e = .returned (.tuple #[.int .i64 0, .int .i64 2]) ∧ w' = w := by
  go_enter Try.func10, Try.ntmps10
  go_wp2
  go_ret2
  exact ⟨rfl, rfl⟩
set_option maxRecDepth 100000 in
theorem trim_nil (z : Int) (w : World) : Calls Try.prog 12 #[.pointer none, .int .i64 z] w fun e w' => e = .returned (.int .i64 2) ∧ w' = w := by
  go_enter Try.func12, Try.ntmps12
  go_wp2
  go_ret
  exact ⟨rfl, rfl⟩
theorem next_nil (w : World) : Calls Try.prog 13 #[.pointer none] w fun e w' => e = .returned (.int .i64 0) ∧ w' = w := by
  go_enter Try.func13, Try.ntmps13
  go_wp2
  go_ret
  exact ⟨rfl, rfl⟩
set_option maxRecDepth 100000 in
theorem sectors_nil (w : World) : Calls Try.prog 16 #[.pointer none] w fun e w' => e = .returned (.int .i64 0) ∧ w' = w := by
  go_enter Try.func16, Try.ntmps16
  go_wp2
  go_ret
  exact ⟨rfl, rfl⟩

namespace logsNil
set_option maxRecDepth 100000 in
set_option maxHeartbeats 3200000 in
theorem walk (z : Int) (w : World) (_ : Wf z) : Calls Try.prog 5 #[.int .i64 z] w fun e w' => e = .returned (.bool true) ∧ Below w.heap.size w w' := by
  go_enter Try.func5, Try.ntmps5
  go_wp2_with fail
  refine (append_nil _ _).mono ?_
  rintro e w1 ⟨rfl, rfl⟩
  go_wp2_with fail
  refine (open_nil _).mono ?_
  rintro e w2 ⟨rfl, rfl⟩
  go_wp2_with fail
  refine (newX _).mono ?_
  rintro e w3 ⟨X, rfl, hm, hX, hb⟩
  have HM := Lib.hid hm
  have HX := Lib.hid hX
  have HB := Lib.hid hb
  clear hm hX hb
  go_wp2_with fail
  refine (armX X _ 0 St.new 0 w3 HM.out (by constructor <;> decide)).mono ?_
  rintro e w4 ⟨rfl, hm4, ho4⟩
  have HM4 := Lib.hid hm4
  have HB4 := Lib.hid (HB.out.trans (ho4.to_below HB.out.size (fun i hi _ => HX.out i hi)))
  clear hm4 ho4 HM HB
  go_wp2_with fail
  refine (removeX X _ 0 (armF St.new 0) 5 w4 HM4.out (by omega) (by constructor <;> decide)).mono ?_
  rintro e w5 ⟨X5, he, hm5, ho5, hn5⟩
  have hr : (removeF (armF St.new 0) 5).1 = 40 := rfl
  have hoff : (removeF (armF St.new 0) 5).2.off = true := rfl
  rw [hr] at he
  subst he
  have HB5 := Lib.hid (HB4.out.trans (ho5.to_below HB4.out.size (fun i hi _ => HX.out i hi)))
  have HOP := Lib.hid (open_off X5 _ 1 _ w5 hm5 (by omega) hoff)
  clear hm5 ho5 hn5 hr hoff HM4 HX HB4
  go_wp2_with fail
  refine HOP.out.mono ?_
  rintro e w6 ⟨rfl, hb6⟩
  have HB6 := Lib.hid (HB5.out.trans (hb6.mono HB5.out.size))
  clear hb6 HOP HB5
  go_wp2_with (first
    | (go_at_call 12; (with_reducible refine (trim_nil _ _).mono ?_); rintro e w' ⟨rfl, rfl⟩)
    | (go_at_call 13; (with_reducible refine (next_nil _).mono ?_); rintro e w' ⟨rfl, rfl⟩)
    | (go_at_call 16; (with_reducible refine (sectors_nil _).mono ?_); rintro e w' ⟨rfl, rfl⟩)
    | fail)
  refine (awake_any _).mono ?_
  rintro e w7 ⟨rfl, hb7⟩
  have HB7 := Lib.hid (HB6.out.trans (hb7.mono HB6.out.size))
  clear hb7
  go_wp2_with fail
  go_ret
  exact ⟨rfl, HB7.out⟩
end logsNil
end Go.Proofs.Ytcmeaeemjecjiaa
