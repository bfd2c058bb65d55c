/-
 CONTRACTS of the reference's factor, Base.
-/
import Derived.Test.YtgbilfkjfeheaaaGreatOPl
import Derived.BigQuiet
import Derived.Lib.MinMax
namespace Go.Proofs.YtgbilfkjfeheaaaGreat
set_option linter.unusedVariables false
open Go.RowKit
open Pl (It)

/-- An item's box: its units' cells. -/
theorem box_units {x : It} {w : World} {b : Nat} {T : TypeId} (h : w.heap[b]? = some (.cells x.cells.toArray T (0, 0))) (j : Nat) (hj : j < 4) : w.cell? ⟨b, 1 + j * 2, none⟩ = some (.string (x.nm j)) ∧ w.cell? ⟨b, 1 + j * 2 + 1, none⟩ = some (.int .i64 (x.fc j)) := by
 match j, hj with
 | 0, _ => exact ⟨(cell_of_block h).trans rfl, (cell_of_block h).trans rfl⟩
 | 1, _ => exact ⟨(cell_of_block h).trans rfl, (cell_of_block h).trans rfl⟩
 | 2, _ => exact ⟨(cell_of_block h).trans rfl, (cell_of_block h).trans rfl⟩
 | 3, _ => exact ⟨(cell_of_block h).trans rfl, (cell_of_block h).trans rfl⟩
 | i + 4, hi => omega
theorem empty_iff (s : ByteArray) : s.toList.isEmpty = decide (s.size = 0) := by
 rw [ByteArray.toList_eq]
 cases h : s.data.toList with
 | nil =>
  have : s.size = 0 := by rw [← Pl.length_toList, h]; rfl
  simp [this]
 | cons a l =>
  have : s.size ≠ 0 := by rw [← Pl.length_toList, h]; simp
  simp [this]
theorem each_eq (s : ByteArray) : (s.toList == [101, 97, 99, 104]) = Pl.eqv s Pl.each := by unfold Pl.eqv; rw [show Pl.each.toList = [101, 97, 99, 104] from by rw [ByteArray.toList_eq]]

set_option maxRecDepth 100000 in
set_option maxHeartbeats 1600000 in
theorem rfactor_any (x : It) (s : ByteArray) (w : World) : Calls Tryz.prog 113 #[.agg x.cells.toArray, .string s] w fun e w' => e = .returned (.int .i64 (Pl.factorU x s)) ∧ Below w.heap.size w w' := by
 have HB : Hid (Below w.heap.size w (w.alloc (.cells x.cells.toArray 87))) := Lib.hid ((Below.refl _ w).alloc (Nat.le_refl _) _)
 have HC : Hid (∀ W, Below (w.heap.size + 1) (w.alloc (.cells x.cells.toArray 87)) W → W.heap[w.heap.size]? = some (.cells x.cells.toArray 87 (0, 0))) := Lib.hid (fun W hW => (hW.block _ (by omega)).trans (heap_alloc_new _ _))
 have he := each_eq s
 cases hs : Pl.eqv s Pl.each with
 | true =>
  rw [hs] at he
  have HV : Hid (Pl.factorU x s = 1) := Lib.hid (by unfold Pl.factorU; rw [if_pos hs])
  clear hs
  go_enter Tryz.func113, Tryz.ntmps113
  go_wp2_with fail
  go_ret
  exact ⟨by rw [HV.out]; rfl, HB.out⟩
 | false =>
  rw [hs] at he
  have HV : Hid (Pl.factorU x s = match (List.range 4).find? (Pl.fitU x s) with | some i => x.fc i | none => 0) := Lib.hid (by unfold Pl.factorU; rw [if_neg (by rw [hs]; simp)]; rfl)
  clear hs
  go_enter Tryz.func113, Tryz.ntmps113
  go_wp2_with fail
  go_loopw [5] (fun i wr => ∃ k : Nat, k ≤ 4 ∧ i = .int .i64 (k : Int) ∧ Hid (∀ j, j < k → Pl.fitU x s j = false) ∧ Hid (Below (w.heap.size + 1) (w.alloc (.cells x.cells.toArray 87)) wr)) (fun i _ => 4 - (intOf i).toNat)
  case atStart => exact ⟨0, by omega, rfl, Lib.hid (fun j h => by omega), Lib.hid (Below.refl _ _)⟩
  case round =>
   obtain ⟨k, hk, rfl, hno, hbel⟩ := hrel
   have HS : Hid (w.heap.size + 1 ≤ wr.heap.size) := Lib.hid (by have := hbel.out.size; simpa using this)
   by_cases hlt : k < 4
   · obtain ⟨c0, c1⟩ := box_units (HC.out wr hbel.out) k hlt
     obtain ⟨p, hp⟩ : ∃ p, x.nm k = p := ⟨_, rfl⟩
     obtain ⟨z, hz⟩ : ∃ z, x.fc k = z := ⟨_, rfl⟩
     rw [hp] at c0
     rw [hz] at c1
     obtain ⟨b, hb⟩ : ∃ b, Pl.fitU x s k = b := ⟨_, rfl⟩
     have hb2 := hb
     unfold Pl.fitU at hb2
     rw [hp, hz] at hb2
     have HBA : Hid (Below (w.heap.size + 1) (w.alloc (.cells x.cells.toArray 87)) (wr.alloc (.cells #[.string p, .int .i64 z] 84))) := Lib.hid (hbel.out.alloc HS.out _)
     have HFB := Lib.hid hb
     have HZ := Lib.hid hz
     clear hb hp hz
     have hE := empty_iff p
     have hcase : (b = false ∧ decide (p.size = 0) = true) ∨ (b = false ∧ decide (p.size = 0) = false ∧ (p.toList == s.toList) = false) ∨ (b = false ∧ decide (p.size = 0) = false ∧ (p.toList == s.toList) = true ∧ z < 2) ∨ (b = true ∧ decide (p.size = 0) = false ∧ (p.toList == s.toList) = true ∧ 2 ≤ z) := by
      have he2 : Pl.eqv p s = (p.toList == s.toList) := rfl
      rw [he2] at hb2
      by_cases h0 : p.size = 0
      · left; simp [h0] at hb2 ⊢; exact hb2
      · cases hq : (p.toList == s.toList) with
        | false => right; left; rw [hq] at hb2; simp [h0] at hb2 ⊢; exact hb2
        | true =>
         by_cases h2 : 2 ≤ z
         · right; right; right; rw [hq] at hb2; simp [h0, h2] at hb2 ⊢; exact hb2
         · right; right; left; rw [hq] at hb2; simp [h0, h2] at hb2 ⊢; exact ⟨hb2, by omega⟩
     clear hb2
     have HNO : b = false → Hid (∀ j, j < k + 1 → Pl.fitU x s j = false) := fun h0 => Lib.hid (fun j hj => by
      by_cases e : j = k
      · subst e; rw [HFB.out]; exact h0
      · exact hno.out j (by omega))
     rcases hcase with ⟨hb, hd⟩ | ⟨hb, hd, hq⟩ | ⟨hb, hd, hq, h2⟩ | ⟨hb, hd, hq, h2⟩
     · rw [hd] at hE
       have HN := HNO hb
       clear HNO hb hd
       go_wp2_with fail
       go_roundw
       case rel => exact ⟨k + 1, by omega, by go_num, HN, HBA⟩
       case measure => simp [intOf]; omega
     · rw [hd] at hE
       have HN := HNO hb
       clear HNO hb hd
       go_wp2_with fail
       go_roundw
       case rel => exact ⟨k + 1, by omega, by go_num, HN, HBA⟩
       case measure => simp [intOf]; omega
     · rw [hd] at hE
       have HN := HNO hb
       clear HNO hb hd
       go_wp2_with fail
       go_roundw
       case rel => exact ⟨k + 1, by omega, by go_num, HN, HBA⟩
       case measure => simp [intOf]; omega
     · rw [hd] at hE
       have HR : Hid (Pl.factorU x s = z) := Lib.hid (by rw [HV.out, Pl.find_first hlt (by rw [HFB.out]; exact hb) hno.out]; exact HZ.out)
       clear HNO hb hd
       go_wp2_with fail
       go_ret
       exact ⟨by rw [HR.out]; rfl, HB.out.trans (HBA.out.mono (by omega))⟩
   · have hk4 : k = 4 := by omega
     have HR : Hid (Pl.factorU x s = 0) := Lib.hid (by rw [HV.out, Pl.find_none (fun j hj => hno.out j (by omega))])
     go_wp2_with fail
     go_ret
     exact ⟨by rw [HR.out]; rfl, HB.out.trans (hbel.out.mono (by omega))⟩

theorem tdiv_pos (f : Int) (hf : 1 ≤ f) : (1000000000 : Int).tdiv f = 1000000000 / f := Int.tdiv_eq_ediv_of_nonneg (by omega)
set_option maxRecDepth 100000 in
theorem rbase_any (x : It) (s : ByteArray) (n : Int) (w : World) (hn : -9223372036854775808 ≤ n) (hn2 : n ≤ 9223372036854775807) : Calls Tryz.prog 74 #[.agg x.cells.toArray, .string s, .int .i64 n] w fun e w' => e = .returned (.tuple #[.int .i64 (Pl.baseU x s n), .int .i64 (Pl.baseE x s n)]) ∧ Below w.heap.size w w' := by
 obtain ⟨f, hf⟩ : ∃ f, Pl.factorU x s = f := ⟨_, rfl⟩
 have HF : Hid (∀ W, Calls Tryz.prog 113 #[.agg x.cells.toArray, .string s] W fun e w' => e = .returned (.int .i64 f) ∧ Below W.heap.size W w') := Lib.hid (fun W => by rw [← hf]; exact rfactor_any x s W)
 have hfc := Pl.factorU_cases x s
 obtain ⟨r, hr⟩ : ∃ r, Pl.baseU x s n = r := ⟨_, rfl⟩
 obtain ⟨er, her⟩ : ∃ r, Pl.baseE x s n = r := ⟨_, rfl⟩
 rw [hr, her]
 unfold Pl.baseU at hr
 unfold Pl.baseE at her
 rw [hf] at hfc hr her
 clear hf
 have HBA : Hid (Below w.heap.size w (w.alloc (.cells x.cells.toArray 87))) := Lib.hid ((Below.refl _ w).alloc (Nat.le_refl _) _)
 have HX0 : Hid ((w.alloc (.cells x.cells.toArray 87)).heap[w.heap.size]? = some (.cells x.cells.toArray 87 (0, 0))) := Lib.hid (heap_alloc_new _ _)
 have hui := Tryz.underlying87
 have HSX : Hid ((Tryz.prog.info? 87).map (·.size) = some x.cells.toArray.size) := Lib.hid (by rw [show (Tryz.prog.info? 87).map (·.size) = some 14 from by kernel_rfl]; rfl)
 go_enter Tryz.func74, Tryz.ntmps74
 go_wp2_with (first
  | (refine wpList_load_row rfl 87 (.tmp 3) rfl w.heap.size rfl _ _ _ _ HX0.out hui rfl HSX.out ?_)
  | fail)
 refine (HF.out _).mono ?_
 rintro e w1 ⟨rfl, hb1⟩
 have B1 := Lib.hid (HBA.out.trans (hb1.mono HBA.out.size))
 clear hb1
 by_cases h0 : f = 0
 · subst h0
   rw [if_pos rfl] at hr her
   subst hr her
   go_wp2_with fail
   go_ret2
   exact ⟨rfl, B1.out⟩
 · have hf1 : 1 ≤ f := by omega
   rw [if_neg h0] at hr her
   by_cases hn1 : n < 1
   · rw [if_pos (.inl hn1)] at hr her
     subst hr her
     go_wp2_with fail
     go_ret2
     exact ⟨rfl, B1.out⟩
   · have hov := Pl.over_iff (f := f) (n := n) hf1
     have htd := tdiv_pos f hf1
     obtain ⟨m, hm⟩ : ∃ m, (1000000000 : Int) / f = m := ⟨_, rfl⟩
     rw [hm] at hov htd
     have hm0 : 0 ≤ m := by rw [← hm]; exact Int.ediv_nonneg (by omega) (by omega)
     have hm1 : m ≤ 1000000000 := by rw [← hm]; exact Int.ediv_le_self _ (by omega)
     clear hm
     by_cases ho : m < n
     · have ho2 := hov.1 ho
       rw [if_pos (.inr ho2)] at hr her
       subst hr her
       clear hov ho2
       go_wp2_with fail
       go_ret2
       exact ⟨rfl, B1.out⟩
     · have ho2 : ¬ 1000000000 < n * f := fun h => ho (hov.2 h)
       rw [if_neg (by omega)] at hr her
       have hnf : 0 ≤ n * f := Int.mul_nonneg (by omega) (by omega)
       subst her
       rw [hr] at ho2 hnf
       have hw : wrap64 (n * f) = r := by rw [hr]; exact IntWalk.wrap64_in r ⟨by omega, by omega⟩
       have HP := Lib.hid hr
       have HWR := Lib.hid hw
       clear hov hr hw
       go_wp2_with fail
       go_ret2
       exact ⟨by rw [← HWR.out]; rfl, B1.out⟩
end Go.Proofs.YtgbilfkjfeheaaaGreat
