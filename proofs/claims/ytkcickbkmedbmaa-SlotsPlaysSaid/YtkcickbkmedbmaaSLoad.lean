/-
  CONTRACT of Load.
-/
import Derived.Test.YtkcickbkmedbmaaSStored
import Derived.ProofKit
import Derived.BigQuiet
namespace Go.Proofs.Ytkcickbkmedbmaa
open Go.RowKit Go.Maps
open Fm (sc sc_length bv bv_length)

theorem stored_parts (T : Ps.Md) (f : Nat) : ∃ (q2 : Int), storedV (Ps.slotF T f) = .tuple #[.agg #[.int .i64 (Ps.numO (Ps.slotF T f) : Int), .string ⟨(Ps.datO (Ps.slotF T f)).toArray⟩], .int .i64 q2] ∧ (q2 == 40) = false := by
  cases Ps.slotF T f with
  | none => exact ⟨41, rfl, rfl⟩
  | some q => obtain ⟨n, d⟩ := q; exact ⟨0, rfl, rfl⟩

theorem loadNil_any (w : World) : Calls Try.prog 16 #[.pointer none] w fun e w' => e = .returned (.tuple #[.int .i64 0, .string ⟨#[]⟩, .int .i64 2]) ∧ Below w.heap.size w w' := by
  go_enter Try.func16, Try.ntmps16
  go_wp2_with fail
  go_ret3
  exact ⟨rfl, Below.refl _ _⟩

set_option maxRecDepth 100000 in
set_option maxHeartbeats 3200000 in
theorem load_any (X : Nat → Prop) (b n : Nat) (s : St) (w : World) (h : M w X b n s) (hoff : s.off = false) :
    Calls Try.prog 16 #[.pointer (some ⟨b, 0, none⟩)] w fun e w' => e = .returned (loadV (Ps.loadF (mdT s))) ∧ Below w.heap.size w w' := by
  have HST := Lib.hid (fun (W : World) (hb : Below w.heap.size w W) (f : Nat) (hf : f < 2) => stored_any X b n s f W (h.below hb) hoff hf)
  have HP := Lib.hid (Ps.load_new (mdT s))
  clear h hoff
  go_enter Try.func16, Try.ntmps16
  go_wp2_with fail
  have HN0 : Hid (SN (w.alloc (.cells #[.int .i64 0, .string ByteArray.empty] 57)) w.heap.size 0 ByteArray.empty) := Lib.hid (heap_alloc_new _ _)
  go_loopw [11] (fun v11 wr => ∃ k : Nat, k ≤ 2 ∧ v11 = .int .i64 (k : Int) ∧ Hid (SN wr w.heap.size ((Ps.newF (mdT s) k).1 : Int) ⟨(Ps.newF (mdT s) k).2.toArray⟩ ∧ Below w.heap.size w wr)) (fun v11 _ => 2 - (RowKit.intOf v11).toNat)
  case atStart => exact ⟨0, by omega, rfl, Lib.hid ⟨HN0.out, (Below.refl _ _).alloc (Nat.le_refl _) _⟩⟩
  case round =>
    obtain ⟨k, hk, rfl, HH⟩ := hrel
    clear HN0
    by_cases hlt : k < 2
    · obtain ⟨q2, hq, hq2⟩ := stored_parts (mdT s) k
      have HS := Lib.hid (HST.out wr HH.out.2 k hlt)
      unfold StoredPost at HS
      rw [hq] at HS
      have HNX : Hid (Ps.newF (mdT s) (k + 1) = if (Ps.newF (mdT s) k).1 < Ps.numO (Ps.slotF (mdT s) k) then (Ps.numO (Ps.slotF (mdT s) k), Ps.datO (Ps.slotF (mdT s) k)) else Ps.newF (mdT s) k) := Lib.hid rfl
      generalize Ps.numO (Ps.slotF (mdT s) k) = q0 at HS HNX
      generalize Ps.datO (Ps.slotF (mdT s) k) = q1 at HS HNX
      obtain ⟨nn, hnn⟩ : ∃ nn, nn = (Ps.newF (mdT s) k).1 := ⟨_, rfl⟩
      rw [← hnn] at HH HNX
      clear hq
      go_wp2_with fail
      refine HS.out.mono ?_
      rintro e w2 ⟨rfl, hb2⟩
      have HH2 : Hid (SN (w2.alloc (.cells #[.int .i64 (q0 : Int), .string ⟨q1.toArray⟩] 57)) w.heap.size (nn : Int) ⟨(Ps.newF (mdT s) k).2.toArray⟩ ∧ Below w.heap.size w (w2.alloc (.cells #[.int .i64 (q0 : Int), .string ⟨q1.toArray⟩] 57))) := Lib.hid (by
        have hl : w.heap.size < wr.heap.size := lt_of_block HH.out.1
        have := hb2.size
        exact ⟨(Below.heap_alloc _ _ _ (by omega)).trans ((hb2.block _ hl).trans HH.out.1), (HH.out.2.trans (hb2.mono HH.out.2.size)).alloc (by omega) _⟩)
      have HW2 : Hid (w.heap.size < w2.heap.size) := Lib.hid (Nat.lt_of_lt_of_le (lt_of_block HH.out.1) hb2.size)
      obtain ⟨nx, hnx⟩ : ∃ nx, nx = (Ps.newF (mdT s) k).2 := ⟨_, rfl⟩
      rw [← hnx] at HH2
      have HNXX := Lib.hid hnx
      have HNN := Lib.hid hnn
      clear hnx hnn
      have c0 : (w2.alloc (.cells #[.int .i64 (q0 : Int), .string ⟨q1.toArray⟩] 57)).cell? ⟨w.heap.size, 0, none⟩ = some (.int .i64 (nn : Int)) := by rw [cell_of_block HH2.out.1]; rfl
      have c1 : (w2.alloc (.cells #[.int .i64 (q0 : Int), .string ⟨q1.toArray⟩] 57)).cell? ⟨w.heap.size, 1, none⟩ = some (.string ⟨nx.toArray⟩) := by rw [cell_of_block HH2.out.1]; rfl
      have f0 : (w2.alloc (.cells #[.int .i64 (q0 : Int), .string ⟨q1.toArray⟩] 57)).frozen? ⟨w.heap.size, 0, none⟩ = false := frozen_of_block HH2.out.1
      have f1 : (w2.alloc (.cells #[.int .i64 (q0 : Int), .string ⟨q1.toArray⟩] 57)).frozen? ⟨w.heap.size, 1, none⟩ = false := frozen_of_block HH2.out.1
      clear hb2 HS HH
      by_cases hgt : nn < q0
      · have HG := Lib.hid hgt
        rw [if_pos hgt] at HNX
        have hgz : (nn : Int) < (q0 : Int) := by omega
        clear hgt
        go_wp2_with fail
        go_roundw
        case rel => exact ⟨k + 1, by omega, by go_num, Lib.hid ⟨by rw [HNX.out]; unfold SN; rw [block_setCell (block_setCell HH2.out.1 _) _]; rfl, (HH2.out.2.setCell (p := ⟨w.heap.size, 0, none⟩) (Nat.le_refl _) _).setCell (p := ⟨w.heap.size, 1, none⟩) (Nat.le_refl _) _⟩⟩
        case measure => simp [RowKit.intOf]; omega
      · rw [if_neg hgt] at HNX
        have hgz : ¬ (nn : Int) < (q0 : Int) := by omega
        clear hgt
        go_wp2_with fail
        go_roundw
        case rel => exact ⟨k + 1, by omega, by go_num, Lib.hid ⟨by rw [HNX.out, ← HNN.out, ← HNXX.out]; exact HH2.out.1, HH2.out.2⟩⟩
        case measure => simp [RowKit.intOf]; omega
    · obtain rfl : k = 2 := by omega
      obtain ⟨nn, hnn⟩ : ∃ nn, nn = (Ps.newF (mdT s) 2).1 := ⟨_, rfl⟩
      obtain ⟨nx, hnx⟩ : ∃ nx, nx = (Ps.newF (mdT s) 2).2 := ⟨_, rfl⟩
      rw [← hnn, ← hnx] at HH
      have he : Ps.newF (mdT s) 2 = (nn, nx) := by rw [hnn, hnx]
      rw [he] at HP
      clear hnn hnx he HST
      have c0 : wr.cell? ⟨w.heap.size, 0, none⟩ = some (.int .i64 (nn : Int)) := by rw [cell_of_block HH.out.1]; rfl
      have c1 : wr.cell? ⟨w.heap.size, 1, none⟩ = some (.string ⟨nx.toArray⟩) := by rw [cell_of_block HH.out.1]; rfl
      by_cases hz : nn = 0
      · have HPN : Hid (Ps.loadF (mdT s) = none) := Lib.hid (by rw [HP.out, if_pos hz])
        subst hz
        clear HP
        go_wp2_with fail
        go_ret3
        exact ⟨by rw [HPN.out]; rfl, HH.out.2⟩
      · have HPN : Hid (Ps.loadF (mdT s) = some (nn, nx)) := Lib.hid (by rw [HP.out, if_neg hz])
        have hzb : ((nn : Int) == 0) = false := by simp; omega
        clear hz HP
        go_wp2_with fail
        go_quiet (fail)
        go_wp2_with fail
        go_ret3
        exact ⟨by rw [HPN.out]; rfl, below_drewN HH.out.2 _⟩
end Go.Proofs.Ytkcickbkmedbmaa
