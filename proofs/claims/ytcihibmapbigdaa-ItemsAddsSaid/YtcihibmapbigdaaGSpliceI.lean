/-
  CONTRACTS of the table's splice, Put, for things of one kind. (By wip/tools/gen_table.py.)
-/
import Derived.Test.YtcihibmapbigdaaGFirstI
namespace Go.Proofs.Ytcihibmapbigdaa
set_option linter.unusedVariables false
open Go.RowKit
open Pl (firstG firstG_none firstG_some findG overG putG)

set_option maxRecDepth 100000 in
set_option maxHeartbeats 800000 in
theorem spliceItem (A A2 : Option Addr) (n c m c2 i j : Nat) (L X : List (List Value)) (w : World) (hn : n = L.length) (hm : m = X.length) (hnc : n ≤ c) (hc : c ≤ 9223372036854775807) (hij : i ≤ j) (hjn : j ≤ n) (hsz : n + m ≤ 1000000) (hL : Things kItem L) (hX : Things kItem X)
    (hr : Rd w w.heap.size A L.flatten) (hr2 : Rd w w.heap.size A2 X.flatten) :
    Calls Try.prog 58 #[.slice A n c, .int .i64 (i : Int), .int .i64 (j : Int), .slice A2 m c2] w fun e w' =>
      ∃ A' c', e = .returned (.slice A' (i + m + (n - j)) c') ∧ w'.ownsRow w.heap.size 42 14 (.slice A' (i + m + (n - j)) c') (i + m + (n - j)) (L.take i ++ X ++ L.drop j).flatten ∧ Below w.heap.size w w' := by
  obtain ⟨i0, z0, hi0, hz0, hz1, hz2, hz3⟩ := info_thing (P := Try.prog) (T := 42) (sz := 14) (by kernel_rfl)
  have hk : kItem.length = 14 := by decide
  have hby : ∀ x, x ≤ 1000000 → x * i0.bytes ≤ 140737488355328 := fun x hx => Nat.le_trans (Nat.mul_le_mul hx hz3) (by decide)
  obtain ⟨w1, hmk, hown1, hg1⟩ := run_make_own (P := Try.prog) w w.heap.size 22 42 i0 _ 14 Try.underlying22 hi0 hz0 hz1 .i64 .i64 (n - (j - i) + m) (by rw [Nat.mul_comm]; exact Nat.le_trans (hby _ (by omega)) (by decide)) (by simp only [maxLen]; omega) (Nat.le_refl _)
  rw [show (((n - (j - i) + m : Nat)) : Int) = (n : Int) - ((j : Int) - (i : Int)) + (m : Int) from by omega] at hmk
  have hb1 : Below w.heap.size w w1 := (Below.refl _ _).grown hg1 (Nat.le_refl _) (by simp)
  have hn1 : n - (j - i) + m ≤ 9223372036854775807 := by omega
  have HN := Lib.hid hn
  have HM := Lib.hid hm
  have HR := Lib.hid hr
  have HR2 := Lib.hid hr2
  have HL := Lib.hid hL
  have HX := Lib.hid hX
  have HO1 := Lib.hid hown1
  have HB1 := Lib.hid hb1
  have HBY := Lib.hid hby
  have HLT : Hid ((L.take i).flatten.length = i * 14) := Lib.hid (by rw [flat_length (hL.take i).len, hk, List.length_take, ← hn]; congr 1; omega)
  have HLX : Hid (X.flatten.length = m * 14) := Lib.hid (by rw [flat_length hX.len, hk, ← hm])
  have HLL : Hid (L.flatten.length = n * 14) := Lib.hid (by rw [flat_length hL.len, hk, ← hn])
  have HLD : Hid ((L.drop j).flatten.length = (n - j) * 14) := Lib.hid (by rw [flat_length (hL.drop j).len, hk, List.length_drop, ← hn])
  have HFD : Hid ((L.drop j).flatten = L.flatten.drop (j * 14)) := Lib.hid (by rw [flat_drop hL.len, hk])
  clear hn hm hr hr2 hown1 hg1 hb1 hL hX hby
  have hcut := run_cut (P := Try.prog) 22 42 14 i0 Try.underlying22 hi0 hz1 A n c j hjn
  go_enter Try.func58, Try.ntmps58
  go_wp2_with (first
    | (at_builtin; refine wpList_app rfl (.tmp 20) (.tmp 23) _ rfl w.heap.size 42 i0 z0 14 i0.bytes Try.underlying22 hi0 hz0 hz1 rfl hz2 (by decide) _ 0 _ [] rfl HO1.out w.heap.size A i c (L.take i).flatten rfl HLT.out ((HR.out.below HB1.out).tkT (ks := kItem) i) (things_one (HL.out.take i)) (by simp only [maxLen]; omega) (HBY.out _ (by omega)) HB1.out.size ?_; intro A3 c3 w2 hown2 hb2; simp only [Nat.zero_add, List.nil_append] at hown2; have HO2 := Lib.hid hown2; have HB2 := Lib.hid (HB1.out.trans hb2); clear hown2 hb2)
    | (at_builtin; refine wpList_app rfl (.tmp 25) (.tmp 26) _ rfl w.heap.size 42 i0 z0 14 i0.bytes Try.underlying22 hi0 hz0 hz1 rfl hz2 (by decide) _ i _ _ rfl HO2.out w.heap.size A2 m c2 X.flatten rfl HLX.out (HR2.out.below HB2.out) (things_one HX.out) (by simp only [maxLen]; omega) (HBY.out _ (by omega)) HB2.out.size ?_; intro A4 c4 w3 hown3 hb3; have HO3 := Lib.hid hown3; have HB3 := Lib.hid (HB2.out.trans hb3); clear hown3 hb3)
    | (at_builtin; refine wpList_app rfl (.tmp 28) (.tmp 31) _ rfl w.heap.size 42 i0 z0 14 i0.bytes Try.underlying22 hi0 hz0 hz1 rfl hz2 (by decide) _ (i + m) _ _ rfl HO3.out w.heap.size (cutA A c j 14) (n - j) (c - j) (L.drop j).flatten rfl HLD.out (by rw [HFD.out]; exact ((HR.out.below HB3.out).cut 14 j c (fun e => by rw [HLL.out]; omega))) (things_one (HL.out.drop j)) (by simp only [maxLen]; omega) (HBY.out _ (by omega)) HB3.out.size ?_; intro A5 c5 w4 hown4 hb4; have HO4 := Lib.hid hown4; have HB4 := Lib.hid (HB3.out.trans hb4); clear hown4 hb4))
  go_ret
  exact ⟨A5, c5, rfl, by rw [List.flatten_append, List.flatten_append]; exact HO4.out, HB4.out⟩

/-- The call hands back a new list: L. -/
def NewItem (w : World) (L : List (List Value)) (e : Ending) (w' : World) : Prop :=
  ∃ A n c, n = L.length ∧ e = .returned (.slice A n c) ∧ w'.ownsRow w.heap.size 42 14 (.slice A n c) n L.flatten ∧ Below w.heap.size w w'
end Go.Proofs.Ytcihibmapbigdaa
