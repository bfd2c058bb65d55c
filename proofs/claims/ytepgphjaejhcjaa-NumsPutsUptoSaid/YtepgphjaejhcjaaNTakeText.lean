/-
  CONTRACTS of nums.TakeText and the reference's TakeText.
-/
import Derived.Test.YtepgphjaejhcjaaNTake
namespace Go.Proofs.Ytepgphjaejhcjaa
open Go.RowKit

/-- What TakeText answers, as a value. -/
def takeTextV : Option (List UInt8 × List UInt8) → Value
  | none => .tuple #[.string ⟨#[]⟩, .string ⟨#[]⟩, .int .i64 44]
  | some (a, b) => .tuple #[.string ⟨a.toArray⟩, .string ⟨b.toArray⟩, .int .i64 0]

set_option maxRecDepth 100000 in
theorem takeText_any (s : ByteArray) (w : World) (hs : s.size ≤ maxLen) :
    Calls Try.prog 23 #[.string s] w fun e w' => e = .returned (takeTextV (Pl.takeTextL s.data.toList)) ∧ ∃ n, w' = w.drewN n := by
  have hc := take_any s w hs
  have hlen := Pl.length_toList s
  cases ht : Pl.takeL s.data.toList with
  | none =>
    have hv : Pl.takeTextL s.data.toList = none := by unfold Pl.takeTextL; rw [ht]
    rw [ht] at hc
    have HC := Lib.hid hc
    have HV := Lib.hid hv
    clear hc hv ht hs hlen
    go_enter Try.func23, Try.ntmps23
    go_wp2_with fail
    refine HC.out.mono ?_
    rintro e w' ⟨rfl, nq, rfl⟩
    unfold takeV
    go_wp2
    go_ret3
    exact ⟨by rw [HV.out]; rfl, _, rfl⟩
  | some p =>
    obtain ⟨n, r⟩ := p
    have hr := Pl.takeF_len _ _ _ _ _ _ ht
    rw [ht] at hc
    have HC := Lib.hid hc
    unfold maxLen at hs
    have hrs : r.length ≤ 9223372036854775807 := by omega
    have hsz : (ByteArray.mk r.toArray).size = r.length := by simp [ByteArray.size]
    have HSZ := Lib.hid hsz
    by_cases hn : r.length < n
    · have hv : Pl.takeTextL s.data.toList = none := by unfold Pl.takeTextL; rw [ht]; exact if_pos hn
      have HV := Lib.hid hv
      clear hc hv ht hs hlen hsz
      go_enter Try.func23, Try.ntmps23
      go_wp2_with fail
      refine HC.out.mono ?_
      rintro e w' ⟨rfl, nq, rfl⟩
      unfold takeV
      go_wp2
      go_ret3
      exact ⟨by rw [HV.out]; rfl, _, rfl⟩
    · have hv : Pl.takeTextL s.data.toList = some (r.take n, r.drop n) := by unfold Pl.takeTextL; rw [ht]; exact if_neg hn
      have HV := Lib.hid hv
      clear hc hv ht hs hlen hsz
      go_enter Try.func23, Try.ntmps23
      go_wp2_with fail
      refine HC.out.mono ?_
      rintro e w' ⟨rfl, nq, rfl⟩
      unfold takeV
      go_wp2
      go_quiet (fail)
      go_wp2
      go_ret3
      refine ⟨?_, _, World.drewN_drewN ..⟩
      rw [HV.out, takeTextV, Pl.ext_mk0, Pl.ext_mkn]
      rfl

set_option maxRecDepth 100000 in
theorem rtakeText_any (s : ByteArray) (w : World) (hs : s.size ≤ maxLen) :
    Calls Try.prog 24 #[.string s] w fun e w' => e = .returned (takeTextV (Pl.takeTextL s.data.toList)) ∧ ∃ n, w' = w.drewN n := by
  have hc := rtake_any s w hs
  have hlen := Pl.length_toList s
  cases ht : Pl.takeL s.data.toList with
  | none =>
    have hv : Pl.takeTextL s.data.toList = none := by unfold Pl.takeTextL; rw [ht]
    rw [ht] at hc
    have HC := Lib.hid hc
    have HV := Lib.hid hv
    clear hc hv ht hs hlen
    go_enter Try.func24, Try.ntmps24
    go_wp2_with fail
    refine HC.out.mono ?_
    rintro e w' ⟨rfl, nq, rfl⟩
    unfold takeV
    go_wp2
    go_ret3
    exact ⟨by rw [HV.out]; rfl, _, rfl⟩
  | some p =>
    obtain ⟨n, r⟩ := p
    have hr := Pl.takeF_len _ _ _ _ _ _ ht
    rw [ht] at hc
    have HC := Lib.hid hc
    unfold maxLen at hs
    have hrs : r.length ≤ 9223372036854775807 := by omega
    have hsz : (ByteArray.mk r.toArray).size = r.length := by simp [ByteArray.size]
    have HSZ := Lib.hid hsz
    by_cases hn : r.length < n
    · have hv : Pl.takeTextL s.data.toList = none := by unfold Pl.takeTextL; rw [ht]; exact if_pos hn
      have HV := Lib.hid hv
      clear hc hv ht hs hlen hsz
      go_enter Try.func24, Try.ntmps24
      go_wp2_with fail
      refine HC.out.mono ?_
      rintro e w' ⟨rfl, nq, rfl⟩
      unfold takeV
      go_wp2
      go_ret3
      exact ⟨by rw [HV.out]; rfl, _, rfl⟩
    · have hv : Pl.takeTextL s.data.toList = some (r.take n, r.drop n) := by unfold Pl.takeTextL; rw [ht]; exact if_neg hn
      have HV := Lib.hid hv
      clear hc hv ht hs hlen hsz
      go_enter Try.func24, Try.ntmps24
      go_wp2_with fail
      refine HC.out.mono ?_
      rintro e w' ⟨rfl, nq, rfl⟩
      unfold takeV
      go_wp2
      go_quiet (fail)
      go_wp2
      go_ret3
      refine ⟨?_, _, World.drewN_drewN ..⟩
      rw [HV.out, takeTextV, Pl.ext_mk0, Pl.ext_mkn]
      rfl
end Go.Proofs.Ytepgphjaejhcjaa
