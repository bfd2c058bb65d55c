/-
  CONTRACTS of nums.Put and the reference's Put.
-/
import Derived.Test.YtepgphjaejhcjaaNPut
import Derived.Laws.OwnMore
namespace Go.Proofs.Ytepgphjaejhcjaa
open Go.RowKit

theorem own_string {B : Nat} {v : Value} {l : List UInt8} {w : World} (h : w.ownsRow B 5 1 v l.length (bv l)) :
    (convert 39 9 v).run Try.prog w = .ok (.string ⟨l.toArray⟩) w := by
  rcases h.2 with ⟨rfl, hl⟩ | ⟨g, cap, cur, rfl, _, hg, _, _, _, htake⟩
  · have : l = [] := List.eq_nil_of_length_eq_zero hl
    subst this
    rw [run_convert_bytes_string w 39 9 5 none 0 0 Try.underlying39 Try.underlying5 Try.underlying9]
    simp [Conv.bytesToString]
    rfl
  · exact run_convert_bytes_back w 39 9 5 ⟨g, 0, none⟩ cap l Try.underlying39 Try.underlying5 Try.underlying9 fun j hj => by
      have hc := h.cellAt j (by omega)
      rw [show (⟨g, 0, none⟩ : Addr).add j = ⟨g, j, none⟩ from by simp [Addr.add]; exact fun h => h.symm, hc]
      simp [bv, hj]

theorem rel_round {B k : Nat} {zs : List Int} {z : Int} {v' : Value} {w1 : World} (he : Pl.encs (zs.take (k + 1)) = Pl.encs (zs.take k) ++ Pl.enc z.toNat)
    (h : w1.ownsRow B 5 1 v' ((Pl.encs (zs.take k)).length + (Pl.enc z.toNat).length) (bv (Pl.encs (zs.take k)) ++ bv (Pl.enc z.toNat))) :
    w1.ownsRow B 5 1 v' (Pl.encs (zs.take (k + 1))).length (bv (Pl.encs (zs.take (k + 1)))) := by
  rw [he, bv_append, List.length_append]; exact h

set_option maxRecDepth 100000 in
set_option maxHeartbeats 800000 in
theorem put_any (b off len cap : Nat) (zs : List Int) (w : World) (hb : b < w.heap.size) (hz : zs.length = len) (hlen : 9 * len + 9 ≤ 140737488355328)
    (hc : ∀ j, j < len → w.cell? ⟨b, off + j, none⟩ = some (.int .i64 (zs.getD j 0))) (hwf : ∀ j : Nat, -9223372036854775808 ≤ zs.getD j 0 ∧ zs.getD j 0 ≤ 9223372036854775807) :
    Calls Try.prog 12 #[.slice (some ⟨b, off, none⟩) len cap] w fun e w' => e = .returned (.string ⟨(Pl.encs zs).toArray⟩) ∧ Below w.heap.size w w' := by
  have HC := Lib.hid hc
  have HWF := Lib.hid hwf
  have HZ := Lib.hid hz
  clear hc hwf hz
  go_enter Try.func12, Try.ntmps12
  go_wp2
  go_loopw [3, 8] (fun v i wr => ∃ k : Nat, k ≤ len ∧ i = .int .i64 (k : Int) ∧ wr.ownsRow w.heap.size 5 1 v (Pl.encs (zs.take k)).length (bv (Pl.encs (zs.take k))) ∧ Below w.heap.size w wr) (fun _ i _ => len - (intOf i).toNat)
  case atStart => exact ⟨0, by omega, rfl, by simpa [bv, Pl.encs] using World.ownsRow_nil _ _ _ _, Below.refl _ _⟩
  case round =>
    obtain ⟨k, hk, rfl, hown, hbel⟩ := hrel
    have hsz := hbel.size
    by_cases hlt : k < len
    · have hcell : wr.cell? ⟨b, off + k, none⟩ = some (.int .i64 (zs.getD k 0)) := (hbel.cell hb).trans (HC.out k hlt)
      have h1 := (HWF.out k).1
      have h2 := (HWF.out k).2
      have hle := Pl.encs_take_len zs k
      have HE := Lib.hid (Pl.encs_take_succ zs k (by rw [HZ.out]; exact hlt))
      generalize zs.getD k 0 = z at hcell h1 h2 HE
      by_cases h0 : 0 ≤ z
      · obtain ⟨m, rfl⟩ := Int.eq_ofNat_of_zero_le h0
        have hp := putOne_any w.heap.size (Pl.encs (zs.take k)).length m _ _ wr (by omega) (by omega) (by omega) hown
        have HP := Lib.hid hp
        clear hp hown
        go_wp2_with fail
        refine HP.out.mono ?_
        rintro e w1 ⟨v', rfl, hown', hb'⟩
        have HR := Lib.hid (rel_round (z := (m : Int)) HE.out hown')
        have HB := Lib.hid (hbel.trans hb')
        clear hown' hb' hbel
        go_wp2
        go_roundw
        case rel => exact ⟨k + 1, by omega, by go_num, HR.out, HB.out⟩
        case measure => simp [intOf]; omega
      · have hz0 : z.toNat = 0 := by omega
        have hp := putOne_any w.heap.size (Pl.encs (zs.take k)).length 0 _ _ wr (by omega) (by omega) (by omega) hown
        rw [show ((0 : Nat) : Int) = 0 from rfl] at hp
        have HP := Lib.hid hp
        have HZ0 := Lib.hid hz0
        clear hp hown hz0
        go_wp2_with fail
        refine HP.out.mono ?_
        rintro e w1 ⟨v', rfl, hown', hb'⟩
        have HR := Lib.hid (rel_round (z := z) HE.out (by rw [HZ0.out]; exact hown'))
        have HB := Lib.hid (hbel.trans hb')
        clear hown' hb' hbel
        go_wp2
        go_roundw
        case rel => exact ⟨k + 1, by omega, by go_num, HR.out, HB.out⟩
        case measure => simp [intOf]; omega
    · have hk' : zs.take k = zs := List.take_of_length_le (by rw [HZ.out]; omega)
      have HK := Lib.hid hk'
      clear hk'
      have hcv := own_string hown
      clear hown
      go_wp2
      go_ret
      exact ⟨by rw [HK.out]; rfl, hbel⟩

theorem put_none (ao : Option Addr) (cap : Nat) (w : World) :
    Calls Try.prog 12 #[.slice ao 0 cap] w fun e w' => e = .returned (.string ⟨(Pl.encs []).toArray⟩) ∧ Below w.heap.size w w' := by
  have hcv := own_string (B := 0) (v := .slice none 0 0) (l := []) (w := w) (World.ownsRow_nil _ _ _ _)
  go_enter Try.func12, Try.ntmps12
  go_wp2
  refine wp_loop_rounds 1 ?_
  rw [rounds_succ]
  go_wp2
  go_ret
  exact ⟨rfl, Below.refl _ _⟩
end Go.Proofs.Ytepgphjaejhcjaa
