/-
  CONTRACTS of the medium's small methods: New, isFile, isSector, spend, Arm, On, Writes; and of all methods at a nil medium.
-/
import Derived.Test.YtkcickbkmedbmaaMMed
namespace Go.Proofs.Ytkcickbkmedbmaa
open Go.RowKit Go.Maps

theorem new_any (w : World) : Calls Try.prog 7 #[] w fun e w' =>
    e = .returned (.pointer (some ⟨w.heap.size + 1, 0, none⟩)) ∧ w' = (w.alloc (.map #[] 0)).alloc (.cells #[.map (some w.heap.size), .bool false, .bool false, .int .i64 0, .int .i64 0] 52) := by
  have hmm := @run_makeMap Try.prog
  go_enter Try.func7, Try.ntmps7
  go_wp2
  go_ret
  exact ⟨rfl, rfl⟩

def isF (x : Int) : Bool := decide (0 ≤ x) && decide (x < 1048576)
def isS (x : Int) : Bool := decide (0 ≤ x) && decide (x < 65536)

theorem isFile_any (x : Int) (w : World) : Calls Try.prog 34 #[.int .i64 x] w fun e w' => e = .returned (.bool (isF x)) ∧ w = w' := by
  by_cases h0 : 0 ≤ x
  · by_cases h1 : x < 1048576
    · have e : isF x = true := by simp [isF, h0, h1]
      have H := Lib.hid e
      clear e
      go_enter Try.func34, Try.ntmps34
      go_wp2
      go_ret
      exact ⟨by rw [H.out]; rfl, rfl⟩
    · have e : isF x = false := by simp [isF, h1]
      have H := Lib.hid e
      clear e
      go_enter Try.func34, Try.ntmps34
      go_wp2
      go_ret
      exact ⟨by rw [H.out]; rfl, rfl⟩
  · have e : isF x = false := by simp [isF, h0]
    have H := Lib.hid e
    clear e
    go_enter Try.func34, Try.ntmps34
    go_wp2
    go_ret
    exact ⟨by rw [H.out]; rfl, rfl⟩

theorem isSector_any (x : Int) (w : World) : Calls Try.prog 35 #[.int .i64 x] w fun e w' => e = .returned (.bool (isS x)) ∧ w = w' := by
  by_cases h0 : 0 ≤ x
  · by_cases h1 : x < 65536
    · have e : isS x = true := by simp [isS, h0, h1]
      have H := Lib.hid e
      clear e
      go_enter Try.func35, Try.ntmps35
      go_wp2
      go_ret
      exact ⟨by rw [H.out]; rfl, rfl⟩
    · have e : isS x = false := by simp [isS, h1]
      have H := Lib.hid e
      clear e
      go_enter Try.func35, Try.ntmps35
      go_wp2
      go_ret
      exact ⟨by rw [H.out]; rfl, rfl⟩
  · have e : isS x = false := by simp [isS, h0]
    have H := Lib.hid e
    clear e
    go_enter Try.func35, Try.ntmps35
    go_wp2
    go_ret
    exact ⟨by rw [H.out]; rfl, rfl⟩

theorem spend_any (b bo : Nat) (off armed valid : Bool) (left writes : Int) (w : World) (h : MS w b bo off armed left writes) (hl0 : 0 ≤ left) (hl1 : left ≤ 9223372036854775807) (hw0 : 0 ≤ writes) (hw1 : writes ≤ 9223372036854775806) :
    Calls Try.prog 33 #[.pointer (some ⟨b, 0, none⟩), .bool valid] w (SpendPost b bo off armed valid left writes w) := by
  have HM := Lib.hid h
  obtain ⟨c0, c1, c2, c3, c4, f0, f1, f2, f3, f4⟩ := h.cl
  clear h
  cases off
  · cases valid
    · go_enter Try.func33, Try.ntmps33
      go_wp2
      go_ret
      exact ⟨42, false, left, writes, rfl, rfl, HM.out, Only.refl _ _⟩
    · cases armed
      · go_enter Try.func33, Try.ntmps33
        go_wp2
        go_ret
        exact ⟨0, false, left, writes + 1, rfl, rfl, by unfold MS; rw [block_setCell HM.out]; rfl, Only.set _ _ _ _⟩
      · by_cases hz : left = 0
        · subst hz
          go_enter Try.func33, Try.ntmps33
          go_wp2
          go_ret
          exact ⟨40, true, 0, writes, rfl, rfl, by unfold MS; rw [block_setCell HM.out]; rfl, Only.set _ _ _ _⟩
        · have hl2 : 1 ≤ left := by omega
          have hb : (left == 0) = false := by simp [hz]
          go_enter Try.func33, Try.ntmps33
          go_wp2
          go_ret
          exact ⟨0, false, left - 1, writes + 1, by simp [spendF, hb], rfl, by unfold MS; rw [block_setCell (block_setCell HM.out _)]; rfl, (Only.set _ _ _ _).tr (Only.set _ _ _ _)⟩
  · go_enter Try.func33, Try.ntmps33
    go_wp2
    go_ret
    exact ⟨40, true, left, writes, rfl, rfl, HM.out, Only.refl _ _⟩

def ArmPost (b bo : Nat) (off : Bool) (n writes : Int) (w : World) (e : Ending) (w' : World) : Prop :=
  e = .returned (.tuple #[]) ∧ MS w' b bo off true (max n 0) writes ∧ Only (fun i => i = b) w w'

theorem arm_any (b bo : Nat) (off armed : Bool) (left writes n : Int) (w : World) (h : MS w b bo off armed left writes) :
    Calls Try.prog 12 #[.pointer (some ⟨b, 0, none⟩), .int .i64 n] w (ArmPost b bo off n writes w) := by
  have HM := Lib.hid h
  obtain ⟨c0, c1, c2, c3, c4, f0, f1, f2, f3, f4⟩ := h.cl
  clear h
  by_cases hn : 0 ≤ n
  · have HX := Lib.hid (show max n 0 = n from by omega)
    go_enter Try.func12, Try.ntmps12
    go_wp2
    all_goals go_end0
    all_goals exact ⟨rfl, by unfold MS; rw [HX.out, block_setCell (block_setCell HM.out _)]; rfl, (Only.set _ _ _ _).tr (Only.set _ _ _ _)⟩
  · have HX := Lib.hid (show max n 0 = 0 from by omega)
    go_enter Try.func12, Try.ntmps12
    go_wp2
    all_goals go_end0
    all_goals exact ⟨rfl, by unfold MS; rw [HX.out, block_setCell (block_setCell HM.out _)]; rfl, (Only.set _ _ _ _).tr (Only.set _ _ _ _)⟩

def OnPost (b bo : Nat) (writes : Int) (w : World) (e : Ending) (w' : World) : Prop :=
  e = .returned (.tuple #[]) ∧ MS w' b bo false false 0 writes ∧ Only (fun i => i = b) w w'

theorem on_any (b bo : Nat) (off armed : Bool) (left writes : Int) (w : World) (h : MS w b bo off armed left writes) :
    Calls Try.prog 14 #[.pointer (some ⟨b, 0, none⟩)] w (OnPost b bo writes w) := by
  have HM := Lib.hid h
  obtain ⟨c0, c1, c2, c3, c4, f0, f1, f2, f3, f4⟩ := h.cl
  clear h
  go_enter Try.func14, Try.ntmps14
  go_wp2
  go_end0
  exact ⟨rfl, by unfold MS; rw [block_setCell (block_setCell (block_setCell HM.out _) _)]; rfl, ((Only.set _ _ _ _).tr (Only.set _ _ _ _)).tr (Only.set _ _ _ _)⟩


end Go.Proofs.Ytkcickbkmedbmaa
