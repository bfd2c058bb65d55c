/-
 CONTRACTS of nums.Name and the reference's Name.
-/
import Derived.Test.YtlkmccmbpnbgbaaGreatRows
import Derived.Test.YtlkmccmbpnbgbaaGreatOPl
import Derived.WalkKit
import Derived.Lib.Hide
import Derived.ProofKit
namespace Go.Proofs.YtlkmccmbpnbgbaaGreat
set_option linter.unusedVariables false
open Go.RowKit

theorem good_all (s : ByteArray) (k : Nat) (h : k < s.size) : (s.data.toList.take (k + 1)).all Pl.good = ((s.data.toList.take k).all Pl.good && Pl.good s[k]) := by
 rw [Pl.take_snoc s k h]; simp
theorem good_yes {c : UInt8} (h1 : 33 ≤ c.toNat) (h2 : c.toNat ≤ 126) : Pl.good c = true := by simp [Pl.good, h1, h2]
theorem good_no1 {c : UInt8} (h1 : c.toNat < 33) : Pl.good c = false := by simp [Pl.good]; omega
theorem good_no2 {c : UInt8} (h1 : 126 < c.toNat) : Pl.good c = false := by simp [Pl.good]; omega
theorem bad_all (l : List UInt8) (k : Nat) (h : (l.take k).all Pl.good = false) : l.all Pl.good = false := by
 rw [← List.take_append_drop k l, List.all_append, h]; rfl
theorem all_take_none (l : List UInt8) : (l.take 0).all Pl.good = true := by simp

theorem name_any (s : ByteArray) (w : World) (hs : s.size ≤ maxLen) :
 Calls Tryz.prog 79 #[.string s] w fun e w' => e = .returned (.int .i64 (Pl.nameE s.data.toList)) ∧ w = w' := by
 unfold maxLen at hs
 have hlen := Pl.length_toList s
 by_cases h12 : 12 < s.size
 · have hv : Pl.nameE s.data.toList = 4 := by unfold Pl.nameE; rw [if_pos (by omega)]
   have HV := Lib.hid hv
   clear hv hlen
   go_enter Tryz.func79, Tryz.ntmps79
   go_wp2
   go_ret
   exact ⟨by rw [HV.out]; rfl, rfl⟩
 by_cases h0 : s.size = 0
 · have hnil : s.data.toList = [] := List.eq_nil_of_length_eq_zero (by omega)
   have hE : s.toList.isEmpty = true := by rw [ByteArray.toList_eq, hnil]; rfl
   have hv : Pl.nameE s.data.toList = 3 := by unfold Pl.nameE; rw [if_neg (by omega), if_pos hnil]
   have HV := Lib.hid hv
   clear hv hlen hnil h0
   go_enter Tryz.func79, Tryz.ntmps79
   go_wp2
   go_ret
   exact ⟨by rw [HV.out]; rfl, rfl⟩
 have hne : s.data.toList ≠ [] := fun h => by rw [h] at hlen; simp at hlen; omega
 have hE : s.toList.isEmpty = false := by rw [ByteArray.toList_eq]; cases hl : s.data.toList with
  | nil => exact absurd hl hne
  | cons a b => rfl
 have hv : ∀ b : Bool, s.data.toList.all Pl.good = b → Pl.nameE s.data.toList = if b then 0 else 3 := by
  intro b hb; unfold Pl.nameE; rw [if_neg (by omega), if_neg hne, hb]
 have HV := Lib.hid hv
 clear hv hlen hne
 go_enter Tryz.func79, Tryz.ntmps79
 go_wp2
 go_loop [11] (fun i => ∃ k : Nat, k ≤ s.size ∧ i = .int .i64 k ∧ (s.data.toList.take k).all Pl.good = true) (fun i => s.size - (intOf i).toNat)
 case atStart => exact ⟨0, Nat.zero_le _, rfl, all_take_none _⟩
 case round =>
  obtain ⟨k, hk, rfl, hg⟩ := hrel
  have HG := Lib.hid hg
  clear hg
  by_cases hlt : k < s.size
  · have hb : s[k].toNat < 256 := s[k].toNat_lt
    have ha := good_all s k hlt
    have HA := Lib.hid ha
    clear ha
    by_cases h33 : s[k].toNat < 33
    · have hbad : s.data.toList.all Pl.good = false := bad_all _ (k + 1) (by rw [HA.out, good_no1 h33, Bool.and_false])
      have HB := Lib.hid hbad
      clear hbad
      go_wp2
      go_ret
      exact ⟨by rw [HV.out false HB.out]; rfl, rfl⟩
    by_cases h126 : 126 < s[k].toNat
    · have hbad : s.data.toList.all Pl.good = false := bad_all _ (k + 1) (by rw [HA.out, good_no2 h126, Bool.and_false])
      have HB := Lib.hid hbad
      clear hbad
      go_wp2
      go_ret
      exact ⟨by rw [HV.out false HB.out]; rfl, rfl⟩
    · go_wp2
      go_round
      case rel => exact ⟨k + 1, by omega, by go_num, by rw [HA.out, HG.out, good_yes (by omega) (by omega)]; rfl⟩
      case measure => simp [intOf]; omega
  · go_wp2
    go_ret
    exact ⟨by rw [HV.out true (by rw [← HG.out, List.take_of_length_le (by rw [Pl.length_toList]; omega)])]; rfl, rfl⟩

theorem rname_any (s : ByteArray) (w : World) (hs : s.size ≤ maxLen) :
 Calls Tryz.prog 43 #[.string s] w fun e w' => e = .returned (.int .i64 (Pl.nameE s.data.toList)) ∧ w = w' := by
 unfold maxLen at hs
 have hlen := Pl.length_toList s
 by_cases h12 : 12 < s.size
 · have hv : Pl.nameE s.data.toList = 4 := by unfold Pl.nameE; rw [if_pos (by omega)]
   have HV := Lib.hid hv
   clear hv hlen
   go_enter Tryz.func43, Tryz.ntmps43
   go_wp2
   go_ret
   exact ⟨by rw [HV.out]; rfl, rfl⟩
 have hE : s.toList.isEmpty = decide (s.size = 0) := by
  rw [ByteArray.toList_eq]; cases hl : s.data.toList with
  | nil => rw [hl] at hlen; simp at hlen; simp [← hlen]
  | cons a b => rw [hl] at hlen; simp at hlen; have h1 : s.size ≠ 0 := by omega
                simp [h1]
 have hv0 : s.size = 0 → Pl.nameE s.data.toList = 3 := by
  intro h0
  have hnil : s.data.toList = [] := List.eq_nil_of_length_eq_zero (by omega)
  unfold Pl.nameE; rw [if_neg (by omega), if_pos hnil]
 have hv : ∀ b : Bool, 0 < s.size → s.data.toList.all Pl.good = b → Pl.nameE s.data.toList = if b then 0 else 3 := by
  intro b h0 hb; unfold Pl.nameE; rw [if_neg (by omega), if_neg (fun h => by rw [h] at hlen; simp at hlen; omega), hb]
 have HV := Lib.hid hv
 have HV0 := Lib.hid hv0
 have HE := Lib.hid hE
 clear hv hlen hv0 hE
 go_enter Tryz.func43, Tryz.ntmps43
 go_wp2
 go_loop [3] (fun i => ∃ k : Nat, k ≤ s.size ∧ i = .int .i64 k ∧ (s.data.toList.take k).all Pl.good = true) (fun i => s.size - (intOf i).toNat)
 case atStart => exact ⟨0, Nat.zero_le _, rfl, all_take_none _⟩
 case round =>
  obtain ⟨k, hk, rfl, hg⟩ := hrel
  have HG := Lib.hid hg
  clear hg
  by_cases hlt : k < s.size
  · have hb : s[k].toNat < 256 := s[k].toNat_lt
    have ha := good_all s k hlt
    have HA := Lib.hid ha
    clear ha
    by_cases h33 : s[k].toNat < 33
    · have hbad : s.data.toList.all Pl.good = false := bad_all _ (k + 1) (by rw [HA.out, good_no1 h33, Bool.and_false])
      have HB := Lib.hid hbad
      clear hbad
      go_wp2
      go_ret
      exact ⟨by rw [HV.out false (by omega) HB.out]; rfl, rfl⟩
    by_cases h126 : 126 < s[k].toNat
    · have hbad : s.data.toList.all Pl.good = false := bad_all _ (k + 1) (by rw [HA.out, good_no2 h126, Bool.and_false])
      have HB := Lib.hid hbad
      clear hbad
      go_wp2
      go_ret
      exact ⟨by rw [HV.out false (by omega) HB.out]; rfl, rfl⟩
    · go_wp2
      go_round
      case rel => exact ⟨k + 1, by omega, by go_num, by rw [HA.out, HG.out, good_yes (by omega) (by omega)]; rfl⟩
      case measure => simp [intOf]; omega
  · by_cases h0 : s.size = 0
    · have hE : s.toList.isEmpty = true := by rw [HE.out]; exact decide_eq_true h0
      go_wp2
      go_ret
      exact ⟨by rw [HV0.out h0]; rfl, rfl⟩
    · have hE : s.toList.isEmpty = false := by rw [HE.out]; exact decide_eq_false h0
      go_wp2
      go_ret
      exact ⟨by rw [HV.out true (by omega) (by rw [← HG.out, List.take_of_length_le (by rw [Pl.length_toList]; omega)])]; rfl, rfl⟩
end Go.Proofs.YtlkmccmbpnbgbaaGreat
