/-
 CONTRACTS of slices.IndexFunc, slices.ContainsFunc over zones, of inbound's isSite. (By wip/tools/gen_kin.py.)
-/
import Derived.Test.YtgbilfkjfeheaaaGreatKLn
namespace Go.Proofs.YtgbilfkjfeheaaaGreat
set_option linter.unusedVariables false
open Go.RowKit
open Pl (firstG findG putG It firstG_none firstG_some)

set_option maxRecDepth 100000 in
set_option maxHeartbeats 800000 in
theorem indexZone (A : Option Addr) (n c K : Nat) (cap : Array Value) (f : List Value → Bool) (L : List (List Value)) (w : World) (hn : n = L.length) (hn63 : n ≤ 1000000) (hL : Things kZone L)
 (hr : Rd w w.heap.size A L.flatten) (hT : TellsF kZone w K cap f) :
 Calls Tryz.prog 180 #[.slice A n c, .func (.func K) #[] cap] w fun e w' => e = .returned (.int .i64 (idxI (firstG f L))) ∧ Below w.heap.size w w' := by
 have HN := Lib.hid hn
 have HR := Lib.hid hr
 have HT := Lib.hid hT
 have HL := Lib.hid hL
 have hent := hT.1
 have hk : kZone.length = 2 := by decide
 have hu := Tryz.underlying93
 have HSZ : Hid (∀ y, Fits kZone y → (Tryz.prog.info? 93).map (·.size) = some y.length) := Lib.hid (fun y hy => by rw [show (Tryz.prog.info? 93).map (·.size) = some 2 from by kernel_rfl, hy.length]; rfl)
 clear hn hr hT hL
 go_enter Tryz.func180, Tryz.ntmps180
 go_wp2_with fail
 go_loopw [8] (fun i wr => ∃ k : Nat, k ≤ n ∧ i = .int .i64 (k : Int) ∧ Hid (∀ j (hj : j < L.length), j < k → f L[j] = false) ∧ Hid (Below w.heap.size w wr)) (fun i _ => n - (intOf i).toNat)
 case atStart => exact ⟨0, by omega, rfl, Lib.hid (fun j hj h => by omega), Lib.hid (Below.refl _ _)⟩
 case round =>
  obtain ⟨k, hkn, rfl, hno, hbel⟩ := hrel
  by_cases hlt : k < n
  · have hl : k < L.length := by rw [← HN.out]; exact hlt
    obtain ⟨b, off, rfl, hb, hc⟩ := HR.out.thing HL.out (by rw [hk]; decide) hl
    have fx := HL.out _ (List.getElem_mem hl)
    have r1 := rangeAt_below (hc k hl) hb hbel.out
    rw [hk] at r1
    have hlb : b < wr.heap.size := Nat.lt_of_lt_of_le hb hbel.out.size
    have h1 : (0 : Int) ≤ (k : Int) := by omega
    have h2 : (k : Int) < (n : Int) := by omega
    obtain ⟨x, hx⟩ : ∃ x, L[k] = x := ⟨_, rfl⟩
    rw [hx] at fx r1
    have HX := Lib.hid hx
    have HF := Lib.hid fx
    have HR1 := Lib.hid r1
    have HIX := Lib.hid (HSZ.out x fx)
    clear hc r1 hx fx hb
    cases hf : f x with
    | true =>
     have HFX := Lib.hid hf
     have HV : Hid (firstG f L = some k) := Lib.hid (firstG_some hl (fun j hj hjk => hno.out j hj hjk) (by rw [HX.out]; exact hf))
     clear hf
     go_wp2_with (first
      | (refine wpList_load_mid rfl 93 (.tmp 14) rfl b (off + k * 2) rfl x _ HR1.out hu rfl HIX.out ?_)
      | fail)
     refine (HT.out.2 _ hbel.out x HF.out).mono ?_
     rintro e w1 ⟨rfl, hb1⟩
     have B1 := Lib.hid (hbel.out.trans (hb1.mono hbel.out.size))
     clear hb1
     have hf := HFX.out
     go_wp2_with fail
     go_ret
     exact ⟨by rw [HV.out]; rfl, B1.out⟩
    | false =>
     have HFX := Lib.hid hf
     have HNO : Hid (∀ j (hj : j < L.length), j < k + 1 → f L[j] = false) := Lib.hid (fun j hj hjk => by
      by_cases e : j = k
      · subst e; rw [HX.out]; exact hf
      · exact hno.out j hj (by omega))
     clear hf
     go_wp2_with (first
      | (refine wpList_load_mid rfl 93 (.tmp 14) rfl b (off + k * 2) rfl x _ HR1.out hu rfl HIX.out ?_)
      | fail)
     refine (HT.out.2 _ hbel.out x HF.out).mono ?_
     rintro e w1 ⟨rfl, hb1⟩
     have B1 := Lib.hid (hbel.out.trans (hb1.mono hbel.out.size))
     clear hb1
     have hf := HFX.out
     go_wp2_with fail
     go_roundw
     case rel => exact ⟨k + 1, by omega, by go_num, HNO, B1⟩
     case measure => simp [intOf]; omega
  · have HV : Hid (firstG f L = none) := Lib.hid (firstG_none (fun j hj => hno.out j hj (by have := HN.out; omega)))
    go_wp2_with fail
    go_ret
    exact ⟨by rw [HV.out]; rfl, hbel.out⟩

set_option maxRecDepth 100000 in
theorem hasZone (A : Option Addr) (n c K : Nat) (cap : Array Value) (f : List Value → Bool) (L : List (List Value)) (w : World) (hn : n = L.length) (hn63 : n ≤ 1000000) (hL : Things kZone L)
 (hr : Rd w w.heap.size A L.flatten) (hT : TellsF kZone w K cap f) :
 Calls Tryz.prog 134 #[.slice A n c, .func (.func K) #[] cap] w fun e w' => e = .returned (.bool (L.any f)) ∧ Below w.heap.size w w' := by
 have H := Lib.hid (indexZone A n c K cap f L w hn hn63 hL hr hT)
 have HA := Lib.hid (idx_any f L)
 clear hr hT hL hn
 go_enter Tryz.func134, Tryz.ntmps134
 go_wp2_with fail
 refine H.out.mono ?_
 rintro e w1 ⟨rfl, hb1⟩
 have B1 := Lib.hid hb1
 clear hb1
 obtain ⟨r, hr⟩ : ∃ r, idxI (firstG f L) = r := ⟨_, rfl⟩
 rw [hr]
 have HR := Lib.hid hr
 clear hr
 go_wp2_with fail
 go_ret
 exact ⟨by rw [← HA.out, HR.out]; rfl, B1.out⟩

set_option maxRecDepth 100000 in
set_option maxHeartbeats 3200000 in
theorem csite1 (gi : Nat) (s r0 r1 : ByteArray) (w : World) (hc : w.cell? ⟨gi, 0, none⟩ = some (.string s)) (hl : gi < w.heap.size) : Calls Tryz.prog 135 #[.agg #[.string r0, .string r1], .pointer (some ⟨gi, 0, none⟩)] w fun e w' => e = .returned (.bool (Pl.eqv r1 s)) ∧ Below w.heap.size w w' := by
 obtain ⟨v, hv⟩ : ∃ v, Pl.eqv r1 s = v := ⟨_, rfl⟩
 have HV : (r1.toList == s.toList) = v := hv
 rw [hv]
 have HB : Hid (Below w.heap.size w (w.alloc (.cells #[.string r0, .string r1] 93))) := Lib.hid ((Below.refl _ _).alloc (Nat.le_refl _) _)
 have hc2 : (w.alloc (.cells #[.string r0, .string r1] 93)).cell? ⟨gi, 0, none⟩ = some (.string s) := (HB.out.cell (p := ⟨gi, 0, none⟩) hl).trans hc
 clear hv
 go_enter Tryz.func135, Tryz.ntmps135
 go_wp2_with fail
 go_ret
 exact ⟨rfl, HB.out⟩
set_option maxRecDepth 100000 in
set_option maxHeartbeats 3200000 in
theorem cisSite (h : Hs) (L : Nat → List (List Value)) (s : ByteArray) (w : World) (hh : HT h L w) :
 Calls Tryz.prog 91 #[.agg h.cells, .string s] w fun e w' => e = .returned (.bool (zonedB (L 2) s)) ∧ Below w.heap.size w w' := by
 obtain ⟨hn, hn6, hL, hr⟩ := hh 2 (by decide)
 obtain ⟨W0, hW0⟩ : ∃ W0, W0 = (w.alloc (.cells h.cells 37)).alloc (.cells #[.string s] 9) := ⟨_, rfl⟩
 have H0 : Hid (Below w.heap.size w W0) := Lib.hid (by rw [hW0]; exact ((Below.refl _ _).alloc (Nat.le_refl _) _).alloc (by simp) _)
 have HH : Hid (W0.heap[w.heap.size]? = some (.cells h.cells 37 (0, 0))) := Lib.hid (by rw [hW0]; exact (Below.heap_alloc _ _ _ (by simp)).trans (heap_alloc_new _ _))
 have HX : Hid (W0.heap[w.heap.size + 1]? = some (.cells #[.string s] 9 (0, 0))) := Lib.hid (by
  rw [hW0]
  have hq := heap_alloc_new (w.alloc (.cells h.cells 37)) (.cells #[.string s] 9)
  simpa using hq)
 have c2 : W0.cell? ⟨w.heap.size, 2, none⟩ = some (.slice (h.A 2) (h.n 2) (h.c 2)) := by rw [cell_of_block HH.out]; rfl
 have l2 : w.heap.size < W0.heap.size := lt_of_block HH.out
 have HTL : Hid (TellsF kZone W0 135 #[.pointer (some ⟨w.heap.size + 1, 0, none⟩)] (fun e => Pl.eqv (siteZ e) s)) := Lib.hid ⟨fun args W => by kernel_rfl, fun W hW e he => by
  have hx1 := (hW.block _ (lt_of_block HX.out)).trans HX.out
  have h1 := csite1 (w.heap.size + 1) s (codeOf e) (siteZ e) W (by rw [cell_of_block hx1]; rfl) (lt_of_block hx1)
  have h2 : e.toArray = #[.string (codeOf e), .string (siteZ e)] := by conv => lhs; rw [zone_cells he]
  rw [← h2] at h1
  exact h1⟩
 have HK := Lib.hid (hasZone (h.A 2) (h.n 2) (h.c 2) _ _ _ (L 2) W0 hn hn6 hL (hr.below H0.out |>.mono H0.out.size) HTL.out)
 have hmf : ∀ (fn : Fn) (first cap : Array Value) (w : World), (Instr.makeFunc fn first cap).run Tryz.prog w = .ok (.func fn first cap) w := fun _ _ _ _ => rfl
 have HW0 := Lib.hid hW0
 clear hn hn6 hL hr hh hW0
 go_enter Tryz.func91, Tryz.ntmps91
 go_upto_region 1 with fail
 rw [← HW0.out]
 clear HW0
 go_wp2_with fail
 refine HK.out.mono ?_
 rintro e w1 ⟨rfl, hb1⟩
 have H1 := Lib.hid (H0.out.trans (hb1.mono H0.out.size))
 clear hb1 c2 l2
 go_wp2_with fail
 go_ret
 exact ⟨rfl, H1.out⟩
end Go.Proofs.YtgbilfkjfeheaaaGreat
