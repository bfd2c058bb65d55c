/-
  CONTRACTS of nums.putOne, nums.Put, nums.Text and the reference's Put and Text.
-/
import Derived.Test.YtepgphjaejhcjaaNTake
import Derived.Test.YtepgphjaejhcjaaNPlain2
import Derived.OwnWalk
import Derived.Below
import Derived.Laws.IdiomStrings
namespace Go.Proofs.Ytepgphjaejhcjaa
open Go.RowKit

/-- Bytes as cells. -/
def bv (l : List UInt8) : List Value := l.map fun b => Value.int .u8 (b.toNat : Int)
theorem bv_append (a b : List UInt8) : bv (a ++ b) = bv a ++ bv b := by simp [bv]
theorem info5 : (Try.prog.info? 5).map (fun i => (i.zero, i.size, i.bytes)) = some (some (.int .u8 0), 1, 1) := by kernel_rfl

theorem bv_more (m : Nat) : bv [UInt8.ofNat (m % 128 + 128)] = [.int .u8 ((m : Int) % 128 + 128)] := by
  have h : (m % 128 + 128) % 256 = m % 128 + 128 := Nat.mod_eq_of_lt (by omega)
  simp [bv, h]
theorem bv_last {m : Nat} (h : m < 128) : bv [UInt8.ofNat m] = [.int .u8 (m : Int)] := by
  have h : m % 256 = m := Nat.mod_eq_of_lt (by omega)
  simp [bv]; omega
theorem rel_put {B k m : Nat} {w1 : World} {v' : Value} {xs : List Value} {ys : List UInt8}
    (h : w1.ownsRow B 5 1 v' (k + ys.length + 1) (xs ++ (bv ys ++ [.int .u8 ((m : Int) % 128 + 128)]))) :
    w1.ownsRow B 5 1 v' (k + (ys ++ [UInt8.ofNat (m % 128 + 128)]).length) (xs ++ bv (ys ++ [UInt8.ofNat (m % 128 + 128)])) := by
  rw [bv_append, bv_more, List.length_append]
  exact h
theorem rel_last {B k m m0 f : Nat} {w1 : World} {v' : Value} {xs : List Value} {ys : List UInt8} (hm : m < 128) (he : ys ++ Pl.encF f m = Pl.enc m0)
    (h : w1.ownsRow B 5 1 v' (k + ys.length + 1) (xs ++ (bv ys ++ [.int .u8 (m : Int)]))) :
    w1.ownsRow B 5 1 v' (k + (Pl.enc m0).length) (xs ++ bv (Pl.enc m0)) := by
  rw [← he, Pl.encF_last hm, bv_append, bv_last hm, List.length_append]
  exact h

set_option maxRecDepth 100000 in
set_option maxHeartbeats 800000 in
theorem putOne_any (B k m0 : Nat) (v : Value) (xs : List Value) (w : World) (hm0 : m0 ≤ 9223372036854775807) (hk : k + 9 ≤ 140737488355328) (hB : B ≤ w.heap.size)
    (hown : w.ownsRow B 5 1 v k xs) :
    Calls Try.prog 25 #[v, .int .i64 (m0 : Int)] w fun e w' =>
      ∃ v', e = .returned v' ∧ w'.ownsRow B 5 1 v' (k + (Pl.enc m0).length) (xs ++ bv (Pl.enc m0)) ∧ Below B w w' := by
  obtain ⟨i0, hi, hz0, hz1, hz2⟩ := info_parts info5
  have hm9 : m0 < 128 ^ (8 + 1) := by omega
  have HM := Lib.hid hm9
  clear hm9
  go_enter Try.func25, Try.ntmps25
  go_wp2
  go_loopw [0, 1] (fun v n wr => ∃ (f m : Nat) (ys : List UInt8), n = .int .i64 (m : Int) ∧ m ≤ 9223372036854775807 ∧ ys.length + f ≤ 8 ∧ Hid (m < 128 ^ (f + 1)) ∧ Hid (ys ++ Pl.encF f m = Pl.enc m0) ∧
      wr.ownsRow B 5 1 v (k + ys.length) (xs ++ bv ys) ∧ Below B w wr) (fun _ n _ => (intOf n).toNat)
  case atStart => exact ⟨8, m0, [], rfl, hm0, by simp, HM, Lib.hid rfl, by simpa [bv] using hown, Below.refl _ _⟩
  case round =>
    obtain ⟨f, m, ys, rfl, hm, hf, hmf, he, hownr, hbel⟩ := hrel
    have hsz := hbel.size
    by_cases h128 : 128 ≤ m
    · have h0f := Pl.f_pos h128 hmf.out
      obtain ⟨g, rfl⟩ : ∃ g, f = g + 1 := ⟨f - 1, by omega⟩
      have HE := Lib.hid (he.out)
      have HD := Lib.hid (Pl.div_lt hmf.out)
      clear he hmf
      go_wp2_with (at_builtin; refine wpList_append_own _ rfl (.tmp 7) (.tmp 12) 39 rfl B 5 i0 (.int .u8 0) 1 1 Try.underlying39 hi hz0 hz1 hz2 rfl (by decide) _ _ _ rfl (hownr.alloc _) ⟨wr.heap.size, 0, none⟩ 1 1 [.int .u8 ((m : Int) % 128 + 128)] rfl rfl ?c1 ?c2 ?c3 ?c4 ?c5 ?_)
      case c1 =>
        intro j u hj
        match j, hj with
        | 0, hj => simp at hj; subst hj; simp [Addr.add]
      case c2 => intro u hu; simp at hu; subst hu; rfl
      case c3 => unfold maxLen; omega
      case c4 => omega
      case c5 => simp; omega
      intro v' w1 hown' hgrow _
      have hb1 : Below B w w1 := (hbel.alloc (by omega) _).grown hgrow (by simp; omega) (fun q hq => (hownr.lt q hq).1)
      have R := rel_put hown'
      have HR := Lib.hid R
      have HB := Lib.hid hb1
      clear R hown' hgrow hownr hb1 hbel
      go_wp2
      go_roundw
      case rel =>
        exact ⟨g, m / 128, ys ++ [UInt8.ofNat (m % 128 + 128)], by go_num, by omega, by simp; omega, HD, Lib.hid (by rw [← HE.out, Pl.encF_more h128]; simp), HR.out, HB.out⟩
      case measure => simp [intOf]; omega
    · have HE := Lib.hid (he.out)
      clear he hmf
      go_wp2_with (at_builtin; refine wpList_append_own _ rfl (.tmp 16) (.tmp 19) 39 rfl B 5 i0 (.int .u8 0) 1 1 Try.underlying39 hi hz0 hz1 hz2 rfl (by decide) _ _ _ rfl (hownr.alloc _) ⟨wr.heap.size, 0, none⟩ 1 1 [.int .u8 (m : Int)] rfl rfl ?d1 ?d2 ?d3 ?d4 ?d5 ?_)
      case d1 =>
        intro j u hj
        match j, hj with
        | 0, hj => simp at hj; subst hj; simp [Addr.add]
      case d2 => intro u hu; simp at hu; subst hu; rfl
      case d3 => unfold maxLen; omega
      case d4 => omega
      case d5 => simp; omega
      intro v' w1 hown' hgrow _
      have hb1 : Below B w w1 := (hbel.alloc (by omega) _).grown hgrow (by simp; omega) (fun q hq => (hownr.lt q hq).1)
      have R := rel_last (by omega) HE.out hown'
      have HR := Lib.hid R
      have HB := Lib.hid hb1
      clear R hown' hgrow hownr hb1 hbel
      go_wp2
      go_ret
      exact ⟨_, rfl, HR.out, HB.out⟩
end Go.Proofs.Ytepgphjaejhcjaa
