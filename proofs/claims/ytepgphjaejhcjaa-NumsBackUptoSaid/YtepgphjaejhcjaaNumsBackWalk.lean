/-
  THE WALK of the law NumsBack.
-/
import Derived.Test.YtepgphjaejhcjaaNRow
import Derived.Test.YtepgphjaejhcjaaNPlain3
namespace Go.Proofs.Ytepgphjaejhcjaa.numsBack
open Go.RowKit

theorem encs_drop (zs : List Int) (k : Nat) (h : k < zs.length) : Pl.encs (zs.drop k) = Pl.enc (zs.getD k 0).toNat ++ Pl.encs (zs.drop (k + 1)) := by
  rw [List.drop_eq_getElem_cons h, List.getD_eq_getElem?_getD, List.getElem?_eq_getElem h]
  unfold Pl.encs
  rw [List.flatMap_cons]
  rfl
theorem text_back (a b : List UInt8) (h : a.length ≤ 9223372036854775807) : Pl.takeTextL (textL a ++ b) = some (a, b) := by
  unfold Pl.takeTextL textL
  rw [List.append_assoc, Pl.takeL_back _ _ h]
  simp
/-- The bytes that are left behind k numbers. -/
def left (zs : List Int) (T : List UInt8) (k : Nat) : List UInt8 := Pl.encs (zs.drop k) ++ T
theorem left_take (zs : List Int) (T : List UInt8) (k m : Nat) (h : k < zs.length) (hm : zs.getD k 0 = (m : Int)) (hb : m ≤ 9223372036854775807) :
    Pl.takeL (left zs T k) = some (m, left zs T (k + 1)) := by
  unfold left
  rw [encs_drop zs k h, hm, List.append_assoc, show ((m : Int)).toNat = m from rfl, Pl.takeL_back _ _ hb]
theorem left_len (zs : List Int) (T : List UInt8) (k : Nat) : (left zs T k).length ≤ 9 * zs.length + T.length := by
  unfold left
  have := Pl.encs_len (zs.drop k)
  rw [List.length_append]
  rw [List.length_drop] at this
  omega
theorem left_less (zs : List Int) (T : List UInt8) (k : Nat) (h : k < zs.length) : (left zs T (k + 1)).length < (left zs T k).length := by
  unfold left
  have h9 : 1 ≤ (Pl.enc (zs.getD k 0).toNat).length := by
    unfold Pl.enc
    rw [Pl.encF]
    split <;> simp
  rw [encs_drop zs k h]
  simp only [List.length_append]
  omega
theorem left_end (zs : List Int) (T : List UInt8) (k : Nat) (h : zs.length ≤ k) : left zs T k = T := by
  unfold left
  rw [List.drop_of_length_le h]
  simp [Pl.encs]
theorem left_start (zs : List Int) (s b : ByteArray) : ((⟨(Pl.encs zs).toArray⟩ : ByteArray) ++ ⟨(textL s.data.toList).toArray⟩ ++ b) = ⟨(left zs (textL s.data.toList ++ b.data.toList) 0).toArray⟩ := by
  rw [Pl.mk_app, Pl.mk_app]
  simp [left]

theorem mk_self (s : ByteArray) : (⟨s.data.toList.toArray⟩ : ByteArray) = s := by simp

set_option maxRecDepth 100000 in
theorem walk_row (b off len cap : Nat) (zs : List Int) (a1 a2 : ByteArray) (w : World) (hz : zs.length = len) (h0 : 0 < len)
    (hcell : ∀ W, Below w.heap.size w W → ∀ j, j < len → W.cell? ⟨b, off + j, none⟩ = some (.int .i64 (zs.getD j 0)))
    (hwf : ∀ j : Nat, -9223372036854775808 ≤ zs.getD j 0 ∧ zs.getD j 0 ≤ 9223372036854775807)
    (hput : Calls Try.prog 12 #[.slice (some ⟨b, off, none⟩) len cap] w fun e w' => e = .returned (.string ⟨(Pl.encs zs).toArray⟩) ∧ Below w.heap.size w w')
    (u0 : len ≤ 1048576) (u1 : a1.size ≤ 1048576) (u2 : a2.size ≤ 1048576) :
    Calls Try.prog 5 #[.slice (some ⟨b, off, none⟩) len cap, .string a1, .string a2] w fun e w' => e = .returned (.bool true) ∧ Below w.heap.size w w' := by
  have hlen := Pl.enc_len a1.size
  have HT := Lib.hid (fun W => text_any a1 W (by omega))
  have hEl : (Pl.encs zs).length ≤ 9437184 := by have := Pl.encs_len zs; omega
  have hTl : (textL a1.data.toList).length ≤ 1048585 := by
    unfold textL; rw [List.length_append, Pl.length_toList]; omega
  have hs1 := Pl.length_toList a1
  have hs2 := Pl.length_toList a2
  have hLl : ∀ k, (left zs (textL a1.data.toList ++ a2.data.toList) k).length ≤ 12000000 := fun k => by
    have := left_len zs (textL a1.data.toList ++ a2.data.toList) k
    rw [List.length_append] at this
    omega
  have HL := Lib.hid hLl
  have HS := Lib.hid (left_start zs a1 a2)
  have htt : Pl.takeTextL (textL a1.data.toList ++ a2.data.toList) = some (a1.data.toList, a2.data.toList) := text_back _ _ (by omega)
  have HTT := Lib.hid htt
  clear hs1 hs2 hLl htt
  have HC := Lib.hid hcell
  have HW := Lib.hid hwf
  have HZ := Lib.hid hz
  have HP := Lib.hid hput
  clear hcell hwf hz hput hlen
  go_enter Try.func5, Try.ntmps5
  go_wp2_with fail
  go_loop [7] (fun i => ∃ k : Nat, k ≤ len ∧ i = .int .i64 (k : Int) ∧ Hid (∀ j, j < k → 0 ≤ zs.getD j 0)) (fun i => len - (intOf i).toNat)
  case atStart => exact ⟨0, by omega, rfl, Lib.hid (fun j hj => by omega)⟩
  case round =>
    obtain ⟨k, hk, rfl, hall⟩ := hrel
    by_cases hlt : k < len
    · have hc := HC.out w (Below.refl _ _) k hlt
      obtain ⟨h1, h2⟩ := HW.out k
      by_cases hneg : zs.getD k 0 < 0
      · generalize zs.getD k 0 = z at hc h1 h2 hneg
        go_wp2_with fail
        refine (awake_any _).mono ?_
        rintro e w3 ⟨rfl, hb3⟩
        go_wp2_with fail
        go_ret
        exact ⟨rfl, hb3⟩
      · have hall' : ∀ j, j < k + 1 → 0 ≤ zs.getD j 0 := fun j hj => by
          by_cases e : j = k
          · rw [e]; omega
          · exact hall.out j (by omega)
        have HA := Lib.hid hall'
        clear hall' hall
        generalize zs.getD k 0 = z at hc h1 h2 hneg
        go_wp2_with fail
        go_round
        case rel => exact ⟨k + 1, by omega, by go_num, HA⟩
        case measure => simp [intOf]; omega
    · have hkl : len ≤ k := by omega
      have HA : Hid (∀ j, j < len → 0 ≤ zs.getD j 0) := Lib.hid (fun j hj => hall.out j (by omega))
      clear hall
      go_wp2_with fail
      refine HP.out.mono ?_
      rintro e w1 ⟨rfl, hb1⟩
      have B1 := Lib.hid hb1
      clear hb1
      go_wp2_with fail
      refine (HT.out _).mono ?_
      rintro e w2 ⟨rfl, hb2⟩
      have B2 := Lib.hid (B1.out.trans (hb2.mono B1.out.size))
      clear hb2 B1
      go_wp2_with fail
      generalize textL a1.data.toList ++ a2.data.toList = T at *
      go_loopw [8, 9] (fun d i wr => ∃ k : Nat, k ≤ len ∧ i = .int .i64 (k : Int) ∧ d = .string ⟨(left zs T k).toArray⟩ ∧ Hid (Below w.heap.size w wr)) (fun _ i _ => len - (intOf i).toNat)
      case atStart => exact ⟨0, by omega, rfl, by rw [HS.out], B2⟩
      case round =>
        clear hk hlt hkl
        obtain ⟨q, hq, rfl, rfl, B3⟩ := hrel
        have hl1 := HL.out q
        by_cases hlt : q < len
        · have hc := HC.out wr B3.out q hlt
          have hl2 := HL.out (q + 1)
          have hless := left_less zs T q (by rw [HZ.out]; exact hlt)
          have h0 := HA.out q hlt
          obtain ⟨h1, h2⟩ := HW.out q
          obtain ⟨m, hm⟩ := Int.eq_ofNat_of_zero_le h0
          have hv := left_take zs T q m (by rw [HZ.out]; exact hlt) hm (by omega)
          have ht := fun W => take_any ⟨(left zs T q).toArray⟩ W (by simp [ByteArray.size, maxLen]; omega)
          simp only [hv, takeV] at ht
          have HT2 := Lib.hid ht
          rw [hm] at hc h1 h2
          clear h0 hm ht hv
          go_wp2_with fail
          refine (HT2.out _).mono ?_
          rintro e w3 ⟨rfl, n3, rfl⟩
          have B4 := Lib.hid (below_drewN B3.out n3)
          go_wp2_with fail
          go_roundw
          case rel => exact ⟨q + 1, by omega, by go_num, rfl, B4⟩
          case measure => simp [intOf]; omega
        · have ht := fun W => takeText_any ⟨(left zs T q).toArray⟩ W (by simp [ByteArray.size, maxLen]; omega)
          simp only [left_end zs T q (by rw [HZ.out]; omega), HTT.out, takeTextV, mk_self] at ht
          rw [left_end zs T q (by rw [HZ.out]; omega)]
          have HT2 := Lib.hid ht
          clear ht
          go_wp2_with fail
          refine (HT2.out _).mono ?_
          rintro e w3 ⟨rfl, n3, rfl⟩
          have B4 := Lib.hid (below_drewN B3.out n3)
          go_wp2_with fail
          refine (awake_any _).mono ?_
          rintro e w4 ⟨rfl, hb4⟩
          go_wp2_with fail
          go_ret
          exact ⟨rfl, B4.out.trans (hb4.mono B4.out.size)⟩

/-- No numbers. -/
theorem walk_none (ao : Option Addr) (cap : Nat) (a1 a2 : ByteArray) (w : World) (u1 : a1.size ≤ 1048576) (u2 : a2.size ≤ 1048576) :
    Calls Try.prog 5 #[.slice ao 0 cap, .string a1, .string a2] w fun e w' => e = .returned (.bool true) ∧ Below w.heap.size w w' := by
  have hlen := Pl.enc_len a1.size
  have HT := Lib.hid (fun W => text_any a1 W (by omega))
  have HP := Lib.hid (put_none ao cap w)
  have hs1 := Pl.length_toList a1
  have hs2 := Pl.length_toList a2
  have hTl : (textL a1.data.toList).length ≤ 1048585 := by
    unfold textL; rw [List.length_append, Pl.length_toList]; omega
  have hE : (Pl.encs []).length ≤ 0 := by simp [Pl.encs]
  have HS := Lib.hid (left_start [] a1 a2)
  have htt : Pl.takeTextL (textL a1.data.toList ++ a2.data.toList) = some (a1.data.toList, a2.data.toList) := text_back _ _ (by omega)
  have hl := left_end [] (textL a1.data.toList ++ a2.data.toList) 0 (Nat.le_refl _)
  have ht := fun W => takeText_any ⟨(left [] (textL a1.data.toList ++ a2.data.toList) 0).toArray⟩ W (by rw [hl]; show (textL a1.data.toList ++ a2.data.toList).toArray.size ≤ maxLen; rw [List.size_toArray, List.length_append]; unfold maxLen; omega)
  simp only [hl, htt, takeTextV, mk_self] at ht
  rw [hl] at HS
  have HT2 := Lib.hid ht
  clear hs1 hs2 htt hl ht hlen
  go_enter Try.func5, Try.ntmps5
  go_wp2_with fail
  refine wp_loop_rounds 1 ?_
  rw [rounds_succ]
  go_wp2_with fail
  refine HP.out.mono ?_
  rintro e w1 ⟨rfl, hb1⟩
  have B1 := Lib.hid hb1
  clear hb1
  go_wp2_with fail
  refine (HT.out _).mono ?_
  rintro e w2 ⟨rfl, hb2⟩
  have B2 := Lib.hid (B1.out.trans (hb2.mono B1.out.size))
  clear hb2 B1
  go_wp2_with fail
  refine wp_loop_rounds 1 ?_
  rw [rounds_succ]
  go_wp2_with fail
  rw [HS.out]
  refine (HT2.out _).mono ?_
  rintro e w3 ⟨rfl, n3, rfl⟩
  have B4 := Lib.hid (below_drewN B2.out n3)
  go_wp2_with fail
  refine (awake_any _).mono ?_
  rintro e w4 ⟨rfl, hb4⟩
  go_wp2_with fail
  go_ret
  exact ⟨rfl, B4.out.trans (hb4.mono B4.out.size)⟩

theorem walk (a0 : Option Addr) (len0 cap0 : Nat) (z0 : List Int) (a1 a2 : ByteArray) (w : World) (w0 : IsRow .i64 w a0 len0 cap0 z0) (_w1 : a1.size ≤ maxLen) (_w2 : a2.size ≤ maxLen) (u0 : len0 ≤ 1048576) (u1 : a1.size ≤ 1048576) (u2 : a2.size ≤ 1048576) :
    Calls Try.prog 5 #[.slice a0 len0 cap0, .string a1, .string a2] w fun e w' => e = .returned (.bool true) ∧ Below w.heap.size w w' := by
  by_cases h0 : len0 = 0
  · subst h0
    exact walk_none a0 cap0 a1 a2 w u1 u2
  · have hput := put_row (Below.refl _ w) w0 u0
    rcases w0 with ⟨_, rfl, _⟩ | ⟨x, rfl, hlc, _, hz, hc, hwf⟩
    · exact absurd rfl h0
    · have hcell := fun (W : World) (hb : Below w.heap.size w W) => (row_cells (len := len0) hb (by omega) (by omega) hc hwf).2.2.1
      obtain ⟨_, hx, _, hwf'⟩ := row_cells (len := len0) (Below.refl _ w) (by omega) (by omega) hc hwf
      rw [hx] at hput ⊢
      exact walk_row x.block x.off len0 cap0 (z0.take len0) a1 a2 w (by rw [List.length_take]; omega) (by omega) hcell hwf' hput u0 u1 u2
end Go.Proofs.Ytepgphjaejhcjaa.numsBack
