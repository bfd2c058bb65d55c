/-
  CONTRACTS of cmp.Or and cmp.Compare over ints.
-/
import Derived.Test.YtjacodbmmhnopaaGreatQPl
import Derived.Test.YtjacodbmmhnopaaGreatOBase
import Derived.Test.YtjacodbmmhnopaaGreatHLents
namespace Go.Proofs.YtjacodbmmhnopaaGreat
set_option linter.unusedVariables false
open Go.RowKit

/-- The first number that is not 0. -/
def firstNZ : List Int → Int
  | [] => 0
  | z :: l => if z = 0 then firstNZ l else z
theorem or_any (A : Option Addr) (n c : Nat) (l : List Int) (w : World) (hn : n = l.length) (hn6 : n ≤ 1000) (hr : Rd w w.heap.size A (l.map (Value.int .i64))) :
    Calls Tryz.prog 74 #[.slice A n c] w fun e w' => e = .returned (.int .i64 (firstNZ l)) ∧ w' = w := by
  obtain ⟨r, hr0⟩ : ∃ r, firstNZ l = r := ⟨_, rfl⟩
  rw [hr0]
  have HR0 := Lib.hid hr0
  have HN := Lib.hid hn
  have HR := Lib.hid hr
  clear hr0 hr hn
  go_enter Tryz.func74, Tryz.ntmps74
  go_wp2_with fail
  go_loopw [8] (fun kv wr => ∃ k : Nat, k ≤ n ∧ kv = .int .i64 (k : Int) ∧ Hid (firstNZ (l.drop k) = r) ∧ Hid (wr = w)) (fun kv _ => n - (intOf kv).toNat)
  case atStart => exact ⟨0, by omega, rfl, Lib.hid HR0.out, Lib.hid (by first | rfl | trivial)⟩
  case round =>
    obtain ⟨k, hk, rfl, hd, hw⟩ := hrel
    obtain rfl := hw.out
    by_cases hlt : k < n
    · have hkl : k < l.length := by rw [← HN.out]; exact hlt
      obtain ⟨b, off, rfl, hb, hc⟩ := HR.out (by rw [List.length_map]; omega)
      have hs : firstNZ (l.drop k) = if l[k] = 0 then firstNZ (l.drop (k + 1)) else l[k] := by rw [List.drop_eq_getElem_cons hkl]; rfl
      have c0 : wr.cell? ⟨b, off + k, none⟩ = some (.int .i64 l[k]) := hc k _ (by rw [List.getElem?_map, List.getElem?_eq_getElem hkl]; rfl)
      rw [hd.out] at hs
      obtain ⟨z, hz⟩ : ∃ z, l[k] = z := ⟨_, rfl⟩
      rw [hz] at hs c0
      have HS := Lib.hid hs
      have h1 : (0 : Int) ≤ (k : Int) := by omega
      have h2 : (k : Int) < (n : Int) := by omega
      clear hs hz hc hkl
      by_cases hz0 : z = 0
      · have HE : Hid (firstNZ (l.drop (k + 1)) = r) := Lib.hid (by rw [HS.out, if_pos hz0])
        subst hz0
        go_wp2_with fail
        go_roundw
        case rel => exact ⟨k + 1, by omega, by go_num, HE, Lib.hid (by first | rfl | trivial)⟩
        case measure => simp [intOf]; omega
      · have HE : Hid (r = z) := Lib.hid (by rw [HS.out, if_neg hz0])
        have hz1 : (z != 0) = true := by simpa using hz0
        clear hz0
        go_wp2_with fail
        go_ret
        exact ⟨by rw [HE.out]; rfl, rfl⟩
    · have HE : Hid (r = 0) := Lib.hid (by rw [← hd.out, List.drop_eq_nil_of_le (by rw [← HN.out]; omega)]; rfl)
      go_wp2_with fail
      go_ret
      exact ⟨by rw [HE.out]; rfl, rfl⟩
theorem nan_any (z : Int) (w : World) : Calls Tryz.prog 90 #[.int .i64 z] w fun e w' => e = .returned (.bool false) ∧ w' = w := by
  go_enter Tryz.func90, Tryz.ntmps90
  go_wp2_with fail
  go_ret
  exact ⟨by simp, rfl⟩
theorem compareI_any (a b : Int) (w : World) : Calls Tryz.prog 76 #[.int .i64 a, .int .i64 b] w fun e w' => e = .returned (.int .i64 (cmpI a b)) ∧ w' = w := by
  obtain ⟨r, hr⟩ : ∃ r, cmpI a b = r := ⟨_, rfl⟩
  have HR : Hid (r = if a < b then -1 else if b < a then 1 else 0) := Lib.hid (by rw [← hr]; rfl)
  rw [hr]
  clear hr
  have HNA := Lib.hid nan_any
  go_enter Tryz.func76, Tryz.ntmps76
  go_wp2_with fail
  refine (HNA.out a _).mono ?_
  rintro e w1 ⟨rfl, rfl⟩
  go_wp2_with fail
  refine (HNA.out b _).mono ?_
  rintro e w2 ⟨rfl, rfl⟩
  by_cases h1 : a < b
  · have HE : Hid (r = -1) := Lib.hid (by rw [HR.out, if_pos h1])
    go_wp2_with fail
    go_ret
    exact ⟨by rw [HE.out]; rfl, rfl⟩
  · by_cases h2 : b < a
    · have HE : Hid (r = 1) := Lib.hid (by rw [HR.out, if_neg h1, if_pos h2])
      go_wp2_with fail
      go_ret
      exact ⟨by rw [HE.out]; rfl, rfl⟩
    · have HE : Hid (r = 0) := Lib.hid (by rw [HR.out, if_neg h1, if_neg h2])
      go_wp2_with fail
      go_ret
      exact ⟨by rw [HE.out]; rfl, rfl⟩
end Go.Proofs.YtjacodbmmhnopaaGreat
