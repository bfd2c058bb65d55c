/-
  CONTRACT of the reference's Put.
-/
import Derived.Test.YtepgphjaejhcjaaNPut2
namespace Go.Proofs.Ytepgphjaejhcjaa
open Go.RowKit

set_option maxRecDepth 100000 in
set_option maxHeartbeats 1600000 in
theorem rput_any (b off len cap : Nat) (zs : List Int) (w : World) (hb : b < w.heap.size) (hz : zs.length = len) (hlen : 9 * len + 9 ≤ 140737488355328)
    (hc : ∀ j, j < len → w.cell? ⟨b, off + j, none⟩ = some (.int .i64 (zs.getD j 0))) (hwf : ∀ j : Nat, -9223372036854775808 ≤ zs.getD j 0 ∧ zs.getD j 0 ≤ 9223372036854775807) :
    Calls Try.prog 13 #[.slice (some ⟨b, off, none⟩) len cap] w fun e w' => e = .returned (.string ⟨(Pl.encs zs).toArray⟩) ∧ Below w.heap.size w w' := by
  have HC := Lib.hid hc
  have HWF := Lib.hid hwf
  have HZ := Lib.hid hz
  obtain ⟨i0, hi, hz0, hz1, hz2⟩ := info_parts info5
  clear hc hwf hz
  go_enter Try.func13, Try.ntmps13
  go_wp2
  go_loopw [3, 4] (fun v i wr => ∃ k : Nat, k ≤ len ∧ i = .int .i64 (k : Int) ∧ wr.ownsRow w.heap.size 5 1 v (Pl.encs (zs.take k)).length (bv (Pl.encs (zs.take k))) ∧ Below w.heap.size w wr) (fun _ i _ => len - (intOf i).toNat)
  case atStart => exact ⟨0, by omega, rfl, by simpa [bv, Pl.encs] using World.ownsRow_nil _ _ _ _, Below.refl _ _⟩
  case round =>
    obtain ⟨k, hk, rfl, hown, hbel⟩ := hrel
    have hsz := hbel.size
    by_cases hlt : k < len
    · have hcell : wr.cell? ⟨b, off + k, none⟩ = some (.int .i64 (zs.getD k 0)) := (hbel.cell hb).trans (HC.out k hlt)
      have h1 := (HWF.out k).1
      have h2 := (HWF.out k).2
      have hle := Pl.encs_take_len zs k
      have HE := Lib.hid (Pl.encs_take_succ zs k (by rw [HZ.out]; exact hlt))
      generalize zs.getD k 0 = z at hcell h1 h2 HE
      by_cases h0 : 0 ≤ z
      · obtain ⟨m0, rfl⟩ := Int.eq_ofNat_of_zero_le h0
        have HM := Lib.hid (show m0 < 128 ^ (8 + 1) by omega)
        have HM0 := Lib.hid (show ((m0 : Int)).toNat = m0 from rfl)
        go_wp2
        clear hcell
        go_loopw [3, 5] (fun v n w2 => ∃ (f m : Nat) (ys : List UInt8), n = .int .i64 (m : Int) ∧ m ≤ 9223372036854775807 ∧ ys.length + f ≤ 8 ∧ Hid (m < 128 ^ (f + 1)) ∧ Hid (ys ++ Pl.encF f m = Pl.enc m0) ∧
          w2.ownsRow w.heap.size 5 1 v ((Pl.encs (zs.take k)).length + ys.length) (bv (Pl.encs (zs.take k)) ++ bv ys) ∧ Below w.heap.size w w2) (fun _ n _ => (intOf n).toNat)
        case atStart => exact ⟨8, m0, [], rfl, by omega, by simp, HM, Lib.hid rfl, by simpa [bv] using hown, hbel⟩
        case round =>
          clear hown hbel hsz
          obtain ⟨f, m, ys, rfl, hm, hf, hmf, he, hownr, hbel⟩ := hrel
          have hsz := hbel.size
          by_cases h128 : 128 ≤ m
          · have h0f := Pl.f_pos h128 hmf.out
            obtain ⟨g, rfl⟩ : ∃ g, f = g + 1 := ⟨f - 1, by omega⟩
            have HF := Lib.hid (he.out)
            have HD := Lib.hid (Pl.div_lt hmf.out)
            clear he hmf
            go_wp2_with (at_builtin; refine wpList_append_own _ rfl (.tmp 19) (.tmp 24) 39 rfl w.heap.size 5 i0 (.int .u8 0) 1 1 Try.underlying39 hi hz0 hz1 hz2 rfl (by decide) _ _ _ rfl (hownr.alloc _) ⟨wr.heap.size, 0, none⟩ 1 1 [.int .u8 ((m : Int) % 128 + 128)] rfl rfl ?c1 ?c2 ?c3 ?c4 ?c5 ?_)
            case c1 =>
              intro j u hj
              match j, hj with
              | 0, hj => simp at hj; subst hj; simp [Addr.add]
            case c2 => intro u hu; simp at hu; subst hu; rfl
            case c3 => unfold maxLen; omega
            case c4 => omega
            case c5 => simp; omega
            intro v' w1 hown' hgrow _
            have hb1 : Below w.heap.size w w1 := (hbel.alloc (by omega) _).grown hgrow (by simp; omega) (fun q hq => (hownr.lt q hq).1)
            have HR := Lib.hid (rel_put hown')
            have HB := Lib.hid hb1
            clear hown' hgrow hownr hb1 hbel
            go_wp2
            go_roundw
            case rel =>
              exact ⟨g, m / 128, ys ++ [UInt8.ofNat (m % 128 + 128)], by go_num, by omega, by simp; omega, HD, Lib.hid (by rw [← HF.out, Pl.encF_more h128]; simp), HR.out, HB.out⟩
            case measure => simp [intOf]; omega
          · have HF := Lib.hid (he.out)
            clear he hmf
            go_wp2_with (at_builtin; refine wpList_append_own _ rfl (.tmp 28) (.tmp 31) 39 rfl w.heap.size 5 i0 (.int .u8 0) 1 1 Try.underlying39 hi hz0 hz1 hz2 rfl (by decide) _ _ _ rfl (hownr.alloc _) ⟨wr.heap.size, 0, none⟩ 1 1 [.int .u8 (m : Int)] rfl rfl ?d1 ?d2 ?d3 ?d4 ?d5 ?_)
            case d1 =>
              intro j u hj
              match j, hj with
              | 0, hj => simp at hj; subst hj; simp [Addr.add]
            case d2 => intro u hu; simp at hu; subst hu; rfl
            case d3 => unfold maxLen; omega
            case d4 => omega
            case d5 => simp; omega
            intro v' w1 hown' hgrow _
            have hb1 : Below w.heap.size w w1 := (hbel.alloc (by omega) _).grown hgrow (by simp; omega) (fun q hq => (hownr.lt q hq).1)
            have HR := Lib.hid (rel_round HE.out (by rw [HM0.out]; exact rel_last (by omega) HF.out hown'))
            have HB := Lib.hid hb1
            clear hown' hgrow hownr hb1 hbel
            go_wp2
            go_roundw
            case rel => exact ⟨k + 1, by omega, by go_num, HR.out, HB.out⟩
            case measure => simp [intOf]; omega
      · obtain ⟨m0, hm0⟩ : ∃ m0 : Nat, m0 = 0 := ⟨0, rfl⟩
        have HM := Lib.hid (show m0 < 128 ^ (8 + 1) by omega)
        have HM0 := Lib.hid (show z.toNat = m0 by omega)
        have HZ0 := Lib.hid hm0
        clear hm0
        go_wp2
        clear hcell
        go_loopw [3, 5] (fun v n w2 => ∃ (f m : Nat) (ys : List UInt8), n = .int .i64 (m : Int) ∧ m ≤ 9223372036854775807 ∧ ys.length + f ≤ 8 ∧ Hid (m < 128 ^ (f + 1)) ∧ Hid (ys ++ Pl.encF f m = Pl.enc m0) ∧
          w2.ownsRow w.heap.size 5 1 v ((Pl.encs (zs.take k)).length + ys.length) (bv (Pl.encs (zs.take k)) ++ bv ys) ∧ Below w.heap.size w w2) (fun _ n _ => (intOf n).toNat)
        case atStart => exact ⟨8, m0, [], by rw [HZ0.out]; rfl, by rw [HZ0.out]; omega, by simp, HM, Lib.hid rfl, by simpa [bv] using hown, hbel⟩
        case round =>
          clear hown hbel hsz
          obtain ⟨f, m, ys, rfl, hm, hf, hmf, he, hownr, hbel⟩ := hrel
          have hsz := hbel.size
          by_cases h128 : 128 ≤ m
          · have h0f := Pl.f_pos h128 hmf.out
            obtain ⟨g, rfl⟩ : ∃ g, f = g + 1 := ⟨f - 1, by omega⟩
            have HF := Lib.hid (he.out)
            have HD := Lib.hid (Pl.div_lt hmf.out)
            clear he hmf
            go_wp2_with (at_builtin; refine wpList_append_own _ rfl (.tmp 19) (.tmp 24) 39 rfl w.heap.size 5 i0 (.int .u8 0) 1 1 Try.underlying39 hi hz0 hz1 hz2 rfl (by decide) _ _ _ rfl (hownr.alloc _) ⟨wr.heap.size, 0, none⟩ 1 1 [.int .u8 ((m : Int) % 128 + 128)] rfl rfl ?c1 ?c2 ?c3 ?c4 ?c5 ?_)
            case c1 =>
              intro j u hj
              match j, hj with
              | 0, hj => simp at hj; subst hj; simp [Addr.add]
            case c2 => intro u hu; simp at hu; subst hu; rfl
            case c3 => unfold maxLen; omega
            case c4 => omega
            case c5 => simp; omega
            intro v' w1 hown' hgrow _
            have hb1 : Below w.heap.size w w1 := (hbel.alloc (by omega) _).grown hgrow (by simp; omega) (fun q hq => (hownr.lt q hq).1)
            have HR := Lib.hid (rel_put hown')
            have HB := Lib.hid hb1
            clear hown' hgrow hownr hb1 hbel
            go_wp2
            go_roundw
            case rel =>
              exact ⟨g, m / 128, ys ++ [UInt8.ofNat (m % 128 + 128)], by go_num, by omega, by simp; omega, HD, Lib.hid (by rw [← HF.out, Pl.encF_more h128]; simp), HR.out, HB.out⟩
            case measure => simp [intOf]; omega
          · have HF := Lib.hid (he.out)
            clear he hmf
            go_wp2_with (at_builtin; refine wpList_append_own _ rfl (.tmp 28) (.tmp 31) 39 rfl w.heap.size 5 i0 (.int .u8 0) 1 1 Try.underlying39 hi hz0 hz1 hz2 rfl (by decide) _ _ _ rfl (hownr.alloc _) ⟨wr.heap.size, 0, none⟩ 1 1 [.int .u8 (m : Int)] rfl rfl ?d1 ?d2 ?d3 ?d4 ?d5 ?_)
            case d1 =>
              intro j u hj
              match j, hj with
              | 0, hj => simp at hj; subst hj; simp [Addr.add]
            case d2 => intro u hu; simp at hu; subst hu; rfl
            case d3 => unfold maxLen; omega
            case d4 => omega
            case d5 => simp; omega
            intro v' w1 hown' hgrow _
            have hb1 : Below w.heap.size w w1 := (hbel.alloc (by omega) _).grown hgrow (by simp; omega) (fun q hq => (hownr.lt q hq).1)
            have HR := Lib.hid (rel_round HE.out (by rw [HM0.out]; exact rel_last (by omega) HF.out hown'))
            have HB := Lib.hid hb1
            clear hown' hgrow hownr hb1 hbel
            go_wp2
            go_roundw
            case rel => exact ⟨k + 1, by omega, by go_num, HR.out, HB.out⟩
            case measure => simp [intOf]; omega
    · have hk' : zs.take k = zs := List.take_of_length_le (by rw [HZ.out]; omega)
      have HK := Lib.hid hk'
      clear hk'
      have hcv := own_string hown
      clear hown
      go_wp2
      go_ret
      exact ⟨by rw [HK.out]; rfl, hbel⟩

theorem rput_none (ao : Option Addr) (cap : Nat) (w : World) :
    Calls Try.prog 13 #[.slice ao 0 cap] w fun e w' => e = .returned (.string ⟨(Pl.encs []).toArray⟩) ∧ Below w.heap.size w w' := by
  have hcv := own_string (B := 0) (v := .slice none 0 0) (l := []) (w := w) (World.ownsRow_nil _ _ _ _)
  go_enter Try.func13, Try.ntmps13
  go_wp2
  refine wp_loop_rounds 1 ?_
  rw [rounds_succ]
  go_wp2
  go_ret
  exact ⟨rfl, Below.refl _ _⟩
end Go.Proofs.Ytepgphjaejhcjaa
