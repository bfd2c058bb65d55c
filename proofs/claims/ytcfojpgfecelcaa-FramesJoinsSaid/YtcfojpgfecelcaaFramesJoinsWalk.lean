/-
  The walk of FramesJoins.
-/
import Derived.Test.YtcfojpgfecelcaaFApp
namespace Go.Proofs.Ytcfojpgfecelcaa.framesJoins
open Go.RowKit

set_option maxRecDepth 100000 in
set_option maxHeartbeats 3200000 in
theorem walk (A : Option Addr) (n c : Nat) (l : List ByteArray) (w : World) (hn : n = l.length) (hnc : n ≤ c) (hu : n * 16 ≤ 140737488351232) (hr : Rd w w.heap.size A (sc l)) :
    Calls Try.prog 4 #[.slice A n c] w fun e w' => e = .returned (.bool true) ∧ Below w.heap.size w w' := by
  obtain ⟨jn, jd, jk, je, hJ⟩ := join_u l
  have HJ := Lib.hid hJ
  have HN := Lib.hid hn
  have HR := Lib.hid hr
  clear hJ hn hr
  have b1 : (jn == jn) = true := beq_self_eq_true _
  have b2 : (jd.toList == jd.toList) = true := beq_self_eq_true _
  have b3 : (jk == jk) = true := beq_self_eq_true _
  have b4 : (je == je) = true := beq_self_eq_true _
  go_enter Try.func4, Try.ntmps4
  have hb0 : Below w.heap.size w (w.alloc (.cells #[] 9)) := (Below.refl _ _).alloc (Nat.le_refl _) _
  have hR0 : Rd (w.alloc (.cells #[] 9)) w.heap.size A (sc l) := HR.out.below hb0
  have hO0 := own_empty w
  go_wp2_with (first
    | (refine wpList_app_s rfl (.tmp 12) (.tmp 13) rfl w.heap.size _ 0 0 [] rfl hO0 w.heap.size A n c l rfl HN.out hR0 (by omega) hb0.size ?_; intro A1 c1 w1 ho1 h1)
    | fail)
  rw [List.nil_append, Nat.zero_add] at ho1

  have H1 := Lib.hid (hb0.trans h1)
  have R1 := Lib.hid (Rd.of_own ho1)
  have hc1 := own_cap ho1
  have RS := Lib.hid ((HR.out.below H1.out).mono H1.out.size)
  clear hb0 hR0 hO0 h1 ho1
  go_wp2_with fail
  refine (HJ.out.code A1 n c1 _ HN.out hc1 R1.out).mono ?_
  rintro e w2 ⟨rfl, h2⟩
  have H2 := Lib.hid (H1.out.trans (h2.mono H1.out.size))
  have R1 := Lib.hid ((R1.out.below h2).mono h2.size)
  have RS := Lib.hid ((RS.out.below h2).mono h2.size)
  clear h2
  go_wp2_with fail
  refine (HJ.out.ref A n c _ HN.out hnc RS.out).mono ?_
  rintro e w3 ⟨rfl, h3⟩
  have H3 := Lib.hid (H2.out.trans (h3.mono H2.out.size))
  have R1 := Lib.hid ((R1.out.below h3).mono h3.size)
  have RS := Lib.hid ((RS.out.below h3).mono h3.size)
  clear h3
  go_wp2_with fail
  refine (texts_any A1 A n c1 n c l w3 HN.out HN.out (by omega) R1.out RS.out).mono ?_
  rintro e w4 ⟨rfl, h4⟩
  have H4 := Lib.hid (H3.out.trans (h4.mono H3.out.size))
  clear h4
  go_wp2_with fail
  refine (awake_any _).mono ?_
  rintro e w5 ⟨rfl, h5⟩
  have H5 := Lib.hid (H4.out.trans (h5.mono H4.out.size))
  clear h5
  go_wp2_with fail
  go_ret
  exact ⟨rfl, H5.out⟩
end Go.Proofs.Ytcfojpgfecelcaa.framesJoins
