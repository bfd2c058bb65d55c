/-
  THE WALK of the law NumsLays.
-/
import Derived.Test.YtepgphjaejhcjaaNRow
namespace Go.Proofs.Ytepgphjaejhcjaa.numsLays
open Go.RowKit

set_option maxRecDepth 100000 in
theorem walk (a0 : Option Addr) (len0 cap0 : Nat) (z0 : List Int) (a1 : ByteArray) (w : World) (w0 : IsRow .i64 w a0 len0 cap0 z0) (w1 : a1.size ≤ maxLen) (u0 : len0 ≤ 1048576) (u1 : a1.size ≤ 1048576) :
    Calls Try.prog 3 #[.slice a0 len0 cap0, .string a1] w fun e w' => e = .returned (.bool true) ∧ Below w.heap.size w w' := by
  have hlen := Pl.enc_len a1.size
  have H1 := Lib.hid (put_row (Below.refl _ w) w0 u0)
  have H2 := Lib.hid (fun W hb => rput_row (w := w) (W := W) hb w0 u0)
  have H3 := Lib.hid (fun W => text_any a1 W (by omega))
  have H4 := Lib.hid (fun W => rtext_any a1 W (by omega))
  have H5 := Lib.hid (fun W => name_any a1 W w1)
  have H6 := Lib.hid (fun W => rname_any a1 W w1)
  have H7 := Lib.hid (fun W => sum_any a1 W w1)
  have H8 := Lib.hid (fun W => rsum_any a1 W w1)
  clear w0 u0 w1 u1 hlen
  go_enter Try.func3, Try.ntmps3
  go_wp2_with fail
  refine H1.out.mono ?_
  rintro e w1 ⟨rfl, hb1⟩
  have B1 := Lib.hid hb1
  clear hb1
  go_wp2_with fail
  refine (H2.out _ B1.out).mono ?_
  rintro e w2 ⟨rfl, hb2⟩
  have B2 := Lib.hid (B1.out.trans (hb2.mono B1.out.size))
  clear hb2
  go_wp2_with fail
  refine (H3.out _).mono ?_
  rintro e w3 ⟨rfl, hb3⟩
  have B3 := Lib.hid (B2.out.trans (hb3.mono B2.out.size))
  clear hb3
  go_wp2_with fail
  refine (H4.out _).mono ?_
  rintro e w4 ⟨rfl, hb4⟩
  have B4 := Lib.hid (B3.out.trans (hb4.mono B3.out.size))
  clear hb4
  go_wp2_with fail
  refine (H5.out _).mono ?_
  rintro e w5 ⟨rfl, rfl⟩
  go_wp2_with fail
  refine (H6.out _).mono ?_
  rintro e w5 ⟨rfl, rfl⟩
  go_wp2_with fail
  refine (H7.out _).mono ?_
  rintro e w5 ⟨rfl, rfl⟩
  go_wp2_with fail
  refine (H8.out _).mono ?_
  rintro e w5 ⟨rfl, rfl⟩
  go_wp2_with fail
  refine (awake_any _).mono ?_
  rintro e w6 ⟨rfl, hb6⟩
  go_wp2_with fail
  go_ret
  exact ⟨rfl, B4.out.trans (hb6.mono B4.out.size)⟩
end Go.Proofs.Ytepgphjaejhcjaa.numsLays
