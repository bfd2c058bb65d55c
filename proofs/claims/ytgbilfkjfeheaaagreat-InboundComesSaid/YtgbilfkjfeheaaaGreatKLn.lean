/-
 CONTRACTS of slices.IndexFunc over lines, of inbound's inUse, lineOf. (By wip/tools/gen_kin.py.)
-/
import Derived.Test.YtgbilfkjfeheaaaGreatOPl
import Derived.Test.YtgbilfkjfeheaaaGreatHHouse
import Derived.Test.YtgbilfkjfeheaaaGreatGT
import Derived.Deep.CutRange
namespace Go.Proofs.YtgbilfkjfeheaaaGreat
set_option linter.unusedVariables false
open Go.RowKit
open Pl (firstG findG putG It firstG_none firstG_some)

/-- A place, -1 where there is none. -/
def idxI : Option Nat → Int
 | some i => (i : Int)
 | none => -1
theorem idx_any (f : List Value → Bool) (L : List (List Value)) : decide (0 ≤ idxI (firstG f L)) = L.any f := by
 unfold firstG
 cases h : L.findIdx? f with
 | none =>
  rw [List.findIdx?_eq_none_iff] at h
  rw [show L.any f = false from List.any_eq_false.2 (fun p hp => by rw [h p hp]; simp)]
  rfl
 | some i =>
  obtain ⟨hi, h1, _⟩ := List.findIdx?_eq_some_iff_getElem.1 h
  rw [show L.any f = true from List.any_eq_true.2 ⟨L[i], List.getElem_mem hi, h1⟩]
  simp [idxI]

set_option maxRecDepth 100000 in
set_option maxHeartbeats 800000 in
theorem indexLine (A : Option Addr) (n c K : Nat) (cap : Array Value) (f : List Value → Bool) (L : List (List Value)) (w : World) (hn : n = L.length) (hn63 : n ≤ 1000000) (hL : Things kLine L)
 (hr : Rd w w.heap.size A L.flatten) (hT : TellsF kLine w K cap f) :
 Calls Tryz.prog 98 #[.slice A n c, .func (.func K) #[] cap] w fun e w' => e = .returned (.int .i64 (idxI (firstG f L))) ∧ Below w.heap.size w w' := by
 have HN := Lib.hid hn
 have HR := Lib.hid hr
 have HT := Lib.hid hT
 have HL := Lib.hid hL
 have hent := hT.1
 have hk : kLine.length = 6 := by decide
 have hu := Tryz.underlying39
 have HSZ : Hid (∀ y, Fits kLine y → (Tryz.prog.info? 39).map (·.size) = some y.length) := Lib.hid (fun y hy => by rw [show (Tryz.prog.info? 39).map (·.size) = some 6 from by kernel_rfl, hy.length]; rfl)
 clear hn hr hT hL
 go_enter Tryz.func98, Tryz.ntmps98
 go_wp2_with fail
 go_loopw [8] (fun i wr => ∃ k : Nat, k ≤ n ∧ i = .int .i64 (k : Int) ∧ Hid (∀ j (hj : j < L.length), j < k → f L[j] = false) ∧ Hid (Below w.heap.size w wr)) (fun i _ => n - (intOf i).toNat)
 case atStart => exact ⟨0, by omega, rfl, Lib.hid (fun j hj h => by omega), Lib.hid (Below.refl _ _)⟩
 case round =>
  obtain ⟨k, hkn, rfl, hno, hbel⟩ := hrel
  by_cases hlt : k < n
  · have hl : k < L.length := by rw [← HN.out]; exact hlt
    obtain ⟨b, off, rfl, hb, hc⟩ := HR.out.thing HL.out (by rw [hk]; decide) hl
    have fx := HL.out _ (List.getElem_mem hl)
    have r1 := rangeAt_below (hc k hl) hb hbel.out
    rw [hk] at r1
    have hlb : b < wr.heap.size := Nat.lt_of_lt_of_le hb hbel.out.size
    have h1 : (0 : Int) ≤ (k : Int) := by omega
    have h2 : (k : Int) < (n : Int) := by omega
    obtain ⟨x, hx⟩ : ∃ x, L[k] = x := ⟨_, rfl⟩
    rw [hx] at fx r1
    have HX := Lib.hid hx
    have HF := Lib.hid fx
    have HR1 := Lib.hid r1
    have HIX := Lib.hid (HSZ.out x fx)
    clear hc r1 hx fx hb
    cases hf : f x with
    | true =>
     have HFX := Lib.hid hf
     have HV : Hid (firstG f L = some k) := Lib.hid (firstG_some hl (fun j hj hjk => hno.out j hj hjk) (by rw [HX.out]; exact hf))
     clear hf
     go_wp2_with (first
      | (refine wpList_load_mid rfl 39 (.tmp 14) rfl b (off + k * 6) rfl x _ HR1.out hu rfl HIX.out ?_)
      | fail)
     refine (HT.out.2 _ hbel.out x HF.out).mono ?_
     rintro e w1 ⟨rfl, hb1⟩
     have B1 := Lib.hid (hbel.out.trans (hb1.mono hbel.out.size))
     clear hb1
     have hf := HFX.out
     go_wp2_with fail
     go_ret
     exact ⟨by rw [HV.out]; rfl, B1.out⟩
    | false =>
     have HFX := Lib.hid hf
     have HNO : Hid (∀ j (hj : j < L.length), j < k + 1 → f L[j] = false) := Lib.hid (fun j hj hjk => by
      by_cases e : j = k
      · subst e; rw [HX.out]; exact hf
      · exact hno.out j hj (by omega))
     clear hf
     go_wp2_with (first
      | (refine wpList_load_mid rfl 39 (.tmp 14) rfl b (off + k * 6) rfl x _ HR1.out hu rfl HIX.out ?_)
      | fail)
     refine (HT.out.2 _ hbel.out x HF.out).mono ?_
     rintro e w1 ⟨rfl, hb1⟩
     have B1 := Lib.hid (hbel.out.trans (hb1.mono hbel.out.size))
     clear hb1
     have hf := HFX.out
     go_wp2_with fail
     go_roundw
     case rel => exact ⟨k + 1, by omega, by go_num, HNO, B1⟩
     case measure => simp [intOf]; omega
  · have HV : Hid (firstG f L = none) := Lib.hid (firstG_none (fun j hj => hno.out j hj (by have := HN.out; omega)))
    go_wp2_with fail
    go_ret
    exact ⟨by rw [HV.out]; rfl, hbel.out⟩

/-- The first n of lines that stand cell by cell, as things. -/
def lnsL (l : List Value) (n : Nat) : List (List Value) := (List.range n).map fun i => (lnAt l i).cells
theorem Ln.fitsK (x : Ln) : Fits kLine x.cells := ⟨⟨_, rfl⟩, ⟨_, rfl⟩, ⟨_, rfl⟩, ⟨_, rfl⟩, ⟨_, rfl⟩, ⟨_, rfl⟩, trivial⟩
theorem lnsL_things (l : List Value) (n : Nat) : Things kLine (lnsL l n) := fun e he => by
 obtain ⟨i, _, rfl⟩ := List.mem_map.1 he
 exact Ln.fitsK _
theorem lnsL_len (l : List Value) (n : Nat) : (lnsL l n).length = n := by unfold lnsL; simp
theorem lnsL_at (l : List Value) (n j : Nat) (h : j < (lnsL l n).length) : (lnsL l n)[j] = (lnAt l j).cells := by simp only [lnsL, List.getElem_map, List.getElem_range]
theorem lnsL_flat {l : List Value} (hf : Fits kLine8 l) : ∀ n, n ≤ 8 → (lnsL l n).flatten = l.take (n * 6)
 | 0, _ => by simp [lnsL]
 | n + 1, h => by
  have ih := lnsL_flat hf n (by omega)
  unfold lnsL at ih ⊢
  rw [List.range_succ, List.map_append, List.flatten_append, ih]
  simp only [List.map_cons, List.map_nil, List.flatten_cons, List.flatten_nil, List.append_nil]
  rw [← lnAt_cells hf (by omega), show (n + 1) * 6 = n * 6 + 6 from by omega, List.take_add]
theorem lines_rd {w : World} {b o : Nat} {l : List Value} (hf : Fits kLine8 l) (hr : w.rangeAt b o l) (hb : b < w.heap.size) {n : Nat} (hn : n ≤ 8) : Rd w w.heap.size (some ⟨b, o, none⟩) (lnsL l n).flatten := fun _ => ⟨b, o, rfl, hb, fun j u hu => by
 rw [lnsL_flat hf n hn] at hu
 rw [List.getElem?_take] at hu
 split at hu
 · exact hr j u hu
 · cases hu⟩
/-- Is a line one, and of an item? -/
def usedB (e : List Value) : Bool := !(emp (lnOf e).item)
def forC (s : ByteArray) (e : List Value) : Bool := !(emp (lnOf e).item) && Pl.eqv (lnOf e).item s
theorem forC_at (l : List Value) (s : ByteArray) (n j : Nat) (h : j < (lnsL l n).length) : forC s (lnsL l n)[j] = forB l s j := by rw [lnsL_at]; rfl
theorem downI_none (p : Nat → Bool) : ∀ d, d ≤ 8 → downI p d = -1 → ∀ j, 8 - d ≤ j → j < 8 → p j = false
 | 0, _, _, j, h1, h2 => by omega
 | d + 1, hd, h, j, hj, hk => by
  unfold downI at h
  by_cases hp : p (7 - d) = true
  · rw [if_pos hp] at h; omega
  · rw [if_neg hp] at h
    by_cases e : j = 7 - d
    · subst e; simpa using hp
    · exact downI_none p d (by omega) h j (by omega) hk
theorem lineI_first (l : List Value) (s : ByteArray) : idxI (Pl.firstG (forC s) (lnsL l 8)) = lineI l s := by
 unfold lineI
 rcases downI_cases (forB l s) 8 (Nat.le_refl _) with h | ⟨k, hk, _, h, hp⟩
 · have := downI_none (forB l s) 8 (Nat.le_refl _) h
   rw [h, Pl.firstG_none (fun j hj => by rw [forC_at]; exact this j (by omega) (by rw [lnsL_len] at hj; exact hj))]
   rfl
 · have hf := downI_first (forB l s) 8 (Nat.le_refl _) k h
   have hkl : k < (lnsL l 8).length := by rw [lnsL_len]; exact hk
   rw [h, Pl.firstG_some hkl (fun j hj hjk => by rw [forC_at]; exact hf j (by omega) hjk) (by rw [forC_at]; exact hp)]
   rfl
set_option maxRecDepth 100000 in
set_option maxHeartbeats 3200000 in
theorem cuse (xi : ByteArray) (xa xg xb xp xo : Int) (w : World) : Calls Tryz.prog 65 #[.agg #[.string xi, .int .i64 xa, .int .i64 xg, .int .i64 xb, .int .i64 xp, .int .i64 xo]] w fun e w' => e = .returned (.bool (!(emp xi))) ∧ Below w.heap.size w w' := by
 obtain ⟨v, hv⟩ : ∃ v, (emp xi) = v := ⟨_, rfl⟩
 have HV : Hid (xi.toList.isEmpty = v) := Lib.hid hv
 rw [hv]
 have HB : Hid (Below w.heap.size w (w.alloc (.cells #[.string xi, .int .i64 xa, .int .i64 xg, .int .i64 xb, .int .i64 xp, .int .i64 xo] 39))) := Lib.hid ((Below.refl _ _).alloc (Nat.le_refl _) _)
 clear hv
 have hv := HV.out
 cases v with
 | true =>
  go_enter Tryz.func65, Tryz.ntmps65
  go_wp2_with fail
  go_ret
  exact ⟨rfl, HB.out⟩
 | false =>
  go_enter Tryz.func65, Tryz.ntmps65
  go_wp2_with fail
  go_ret
  exact ⟨rfl, HB.out⟩
set_option maxRecDepth 100000 in
set_option maxHeartbeats 3200000 in
theorem cline1 (gi : Nat) (s xi : ByteArray) (xa xg xb xp xo : Int) (w : World) (hc : w.cell? ⟨gi, 0, none⟩ = some (.string s)) (hl : gi < w.heap.size) : Calls Tryz.prog 99 #[.agg #[.string xi, .int .i64 xa, .int .i64 xg, .int .i64 xb, .int .i64 xp, .int .i64 xo], .pointer (some ⟨gi, 0, none⟩)] w fun e w' => e = .returned (.bool (!(emp xi) && Pl.eqv xi s)) ∧ Below w.heap.size w w' := by
 obtain ⟨W0, hW0⟩ : ∃ W0, W0 = w.alloc (.cells #[.string xi, .int .i64 xa, .int .i64 xg, .int .i64 xb, .int .i64 xp, .int .i64 xo] 39) := ⟨_, rfl⟩
 have HB : Hid (Below w.heap.size w W0) := Lib.hid (by rw [hW0]; exact (Below.refl _ _).alloc (Nat.le_refl _) _)
 have HX : Hid (W0.heap[w.heap.size]? = some (.cells #[.string xi, .int .i64 xa, .int .i64 xg, .int .i64 xb, .int .i64 xp, .int .i64 xo] 39 (0, 0))) := Lib.hid (by rw [hW0]; exact heap_alloc_new _ _)
 have HC : Hid (∀ W, Below w.heap.size w W → W.cell? ⟨gi, 0, none⟩ = some (.string s) ∧ gi < W.heap.size) := Lib.hid (fun W hW => ⟨(hW.cell (p := ⟨gi, 0, none⟩) hl).trans hc, Nat.lt_of_lt_of_le hl hW.size⟩)
 have hu := Tryz.underlying39
 have HS : Hid ((Tryz.prog.info? 39).map (·.size) = some (#[.string xi, .int .i64 xa, .int .i64 xg, .int .i64 xb, .int .i64 xp, .int .i64 xo] : Array Value).size) := Lib.hid (by kernel_rfl)
 obtain ⟨u, hu1⟩ : ∃ u, emp xi = u := ⟨_, rfl⟩
 obtain ⟨v, hv⟩ : ∃ v, Pl.eqv xi s = v := ⟨_, rfl⟩
 have HU : Hid (∀ W, Calls Tryz.prog 65 #[.agg #[.string xi, .int .i64 xa, .int .i64 xg, .int .i64 xb, .int .i64 xp, .int .i64 xo]] W fun e w' => e = .returned (.bool (!u)) ∧ Below W.heap.size W w') := Lib.hid (fun W => by rw [← hu1]; exact cuse xi xa xg xb xp xo W)
 have HV : (xi.toList == s.toList) = v := hv
 rw [hu1, hv]
 clear hc hl hu1 hv
 subst hW0
 go_enter Tryz.func99, Tryz.ntmps99
 go_wp2_with (first
  | (refine wpList_load_row rfl 39 (.tmp 1) rfl w.heap.size rfl _ _ _ _ HX.out hu rfl HS.out ?_)
  | fail)
 refine (HU.out _).mono ?_
 rintro e w1 ⟨rfl, hb1⟩
 have H1 := Lib.hid (HB.out.trans (hb1.mono HB.out.size))
 have HX1 := (hb1.block _ (lt_of_block HX.out)).trans HX.out
 have d0 : w1.cell? ⟨w.heap.size, 0, none⟩ = some (.string xi) := by rw [cell_of_block HX1]; rfl
 have dl := lt_of_block HX1
 obtain ⟨c0, cl⟩ := HC.out _ H1.out
 clear hb1 HX1
 cases u with
 | true =>
  go_wp2_with fail
  go_ret
  exact ⟨rfl, H1.out⟩
 | false =>
  go_wp2_with fail
  go_ret
  exact ⟨rfl, H1.out⟩
set_option maxRecDepth 100000 in
set_option maxHeartbeats 3200000 in
theorem clineOf (A : Option Addr) (n c : Nat) (L : List (List Value)) (s : ByteArray) (w : World) (hn : n = L.length) (hn6 : n ≤ 1000000) (hL : Things kLine L) (hr : Rd w w.heap.size A L.flatten) :
 Calls Tryz.prog 67 #[.slice A n c, .string s] w fun e w' => e = .returned (.int .i64 (idxI (firstG (forC s) L))) ∧ Below w.heap.size w w' := by
 obtain ⟨W0, hW0⟩ : ∃ W0, W0 = w.alloc (.cells #[.string s] 9) := ⟨_, rfl⟩
 have H0 : Hid (Below w.heap.size w W0) := Lib.hid (by rw [hW0]; exact (Below.refl _ _).alloc (Nat.le_refl _) _)
 have HX : Hid (W0.heap[w.heap.size]? = some (.cells #[.string s] 9 (0, 0))) := Lib.hid (by rw [hW0]; exact heap_alloc_new _ _)
 have HTL : Hid (TellsF kLine W0 99 #[.pointer (some ⟨w.heap.size, 0, none⟩)] (forC s)) := Lib.hid ⟨fun args W => by kernel_rfl, fun W hW e he => by
  have hx1 := (hW.block _ (lt_of_block HX.out)).trans HX.out
  have h1 := cline1 w.heap.size s (lnOf e).item (lnOf e).asked (lnOf e).got (lnOf e).back (lnOf e).packed (lnOf e).out W (by rw [cell_of_block hx1]; rfl) (lt_of_block hx1)
  have h2 : e.toArray = (lnOf e).cells.toArray := by conv => lhs; rw [ln_cells he]
  rw [h2]
  exact h1⟩
 have HK := Lib.hid (indexLine A n c _ _ _ L W0 hn hn6 hL (hr.below H0.out |>.mono H0.out.size) HTL.out)
 have hmf : ∀ (fn : Fn) (first cap : Array Value) (w : World), (Instr.makeFunc fn first cap).run Tryz.prog w = .ok (.func fn first cap) w := fun _ _ _ _ => rfl
 have HW0 := Lib.hid hW0
 clear hn hn6 hL hr hW0
 go_enter Tryz.func67, Tryz.ntmps67
 go_upto_region 1 with fail
 rw [← HW0.out]
 clear HW0
 go_wp2_with fail
 refine HK.out.mono ?_
 rintro e w1 ⟨rfl, hb1⟩
 have H1 := Lib.hid (H0.out.trans (hb1.mono H0.out.size))
 clear hb1
 go_wp2_with fail
 go_ret
 exact ⟨rfl, H1.out⟩
set_option maxRecDepth 100000 in
theorem slice_all (b o : Nat) (W : World) : (Instr.sliceAt 40 (.pointer (some ⟨b, o, none⟩)) none none none).run Tryz.prog W = .ok (.slice (some ⟨b, o, none⟩) 8 8) W := by
 simp [go_sem]
end Go.Proofs.YtgbilfkjfeheaaaGreat
