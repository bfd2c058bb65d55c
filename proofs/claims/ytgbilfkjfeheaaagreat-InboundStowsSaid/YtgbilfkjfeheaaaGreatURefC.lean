/-
 CONTRACT of the reference's Suggest. (By wip/tools/gen_uref.py.)
-/
import Derived.Test.YtgbilfkjfeheaaaGreatURefB
import Derived.BigQuiet
namespace Go.Proofs.YtgbilfkjfeheaaaGreat
set_option linter.unusedVariables false
open Go.RowKit
open Pl (firstG findG putG It)

theorem infoBo : (Tryz.prog.info? 4).map (fun i => (i.zero, i.size, i.bytes)) = some (some (.bool false), 1, 1) := by kernel_rfl
def bo (l : List Bool) : List Value := l.map Value.bool
theorem bo_at (l : List Bool) (j : Nat) (h : j < l.length) : (bo l)[j]? = some (.bool l[j]) := by unfold bo; rw [List.getElem?_map, List.getElem?_eq_getElem h]; rfl
theorem bo_set (l : List Bool) (j : Nat) (b : Bool) : (bo l).toArray.setIfInBounds j (.bool b) = (bo (l.set j b)).toArray := by
 unfold bo; rw [List.setIfInBounds_toArray, List.map_set]
theorem madeBo (w : World) (m : Nat) (hm : m ≤ 1000) : ∃ w1, (Instr.makeSlice 202 (.int .i64 (m : Int)) (.int .i64 (m : Int))).run Tryz.prog w = .ok (.slice (some ⟨w.heap.size, 0, none⟩) m m) w1 ∧
 w1.heap[w.heap.size]? = some (.cells (bo (List.replicate m false)).toArray 4 (0, 0)) ∧ Below w.heap.size w w1 := by
 obtain ⟨i0, hi, hz, hs, hb⟩ := info_parts infoBo
 have hr := run_make (P := Tryz.prog) w 202 4 i0 _ Tryz.underlying202 hi hz .i64 .i64 (m : Int) (m : Int) (by omega) (by omega) (by rw [hb]; omega) (by omega)
 simp only [Int.toNat_natCast] at hr
 refine ⟨_, hr, ?_, (Below.refl _ _).alloc (Nat.le_refl _) _⟩
 rw [hs]
 show (w.heap.push _)[w.heap.size]? = _
 rw [Array.getElem?_push_size]
 have e : madeCells (Value.bool false).cells (m * 1) = (bo (List.replicate m false)).toArray := by
  apply Array.ext'
  rw [show (Value.bool false).cells = #[Value.bool false] from by simp [Value.cells], toList_madeCells_one]
  simp [bo]
 rw [e]

set_option maxRecDepth 100000 in
set_option maxHeartbeats 6400000 in
theorem rsuggest_any (h : Hs) (L : Nat → List (List Value)) (st it : ByteArray) (n : Int) (w : World) (hh : HT h L w) (hn5 : h.n 5 ≤ 1000) :
 Calls Tryz.prog 85 #[.agg h.cells, .string st, .string it, .int .i64 n] w fun e w' => e = .returned (.tuple #[.string (sugT (L 0) (L 2) (L 3) (L 4) (L 5) st it n), .int .i64 (sugE (L 0) (L 2) (L 3) (L 4) (L 5) st it n : Nat)]) ∧ Below w.heap.size w w' := by
 have HHT := Lib.hid hh
 obtain ⟨m, hmm⟩ : ∃ m, h.n 5 = m := ⟨_, rfl⟩
 have HNM : Hid (m = (L 5).length) := Lib.hid (by rw [← hmm]; exact (hh 5 (by decide)).1)
 rw [hmm] at hn5
 have HMM := Lib.hid hmm
 obtain ⟨x, hx, hxo⟩ := item_it hh it
 obtain ⟨ii, hii⟩ : ∃ z, (atItem (L 0) it).isSome = z := ⟨_, rfl⟩
 obtain ⟨sh, hsh⟩ : ∃ sh : ByteArray → Option ByteArray, sh = fun zn => shelfT (L 0) (L 2) (L 3) (L 4) zn st it n := ⟨_, rfl⟩
 obtain ⟨tk, htk⟩ : ∃ tk : Nat → Bool, tk = fun i => takesR (L 0) (L 2) (L 3) (L 4) st it n (rlA (L 5) i) := ⟨_, rfl⟩
 obtain ⟨ah, hah⟩ : ∃ ah : Nat → Nat → Bool, ah = fun i j => aheadR (rlA (L 5) i) (rlA (L 5) j) := ⟨_, rfl⟩
 have HTK : Hid (∀ i, tk i = (speaks it (rlA (L 5) i) && (sh (rlA (L 5) i).zone).isSome)) := Lib.hid (fun i => by rw [htk, hsh]; rfl)
 have HAH : Hid (∀ i j, ah i j = aheadR (rlA (L 5) i) (rlA (L 5) j)) := Lib.hid (fun i j => by rw [hah])
 have HWK : Hid (Pl.Weak ah) := Lib.hid (by rw [hah]; exact aheadR_weak.on (fun i => rlA (L 5) i))
 obtain ⟨rt, hrt⟩ : ∃ z, sugT (L 0) (L 2) (L 3) (L 4) (L 5) st it n = z := ⟨_, rfl⟩
 obtain ⟨re, hre⟩ : ∃ z, sugE (L 0) (L 2) (L 3) (L 4) (L 5) st it n = z := ⟨_, rfl⟩
 have HRT : Hid (rt = if ii = false then ⟨#[]⟩ else match Pl.best ah tk m with | none => ⟨#[]⟩ | some i => (sh (rlA (L 5) i).zone).getD ⟨#[]⟩) := Lib.hid (by rw [← hrt, ← hii, hah, htk, hsh, HNM.out]; rfl)
 have HRE : Hid (re = if ii = false then 12 else if (Pl.best ah tk m).isNone = true then 30 else 0) := Lib.hid (by rw [← hre, ← hii, hah, htk, HNM.out]; rfl)
 rw [hrt, hre]
 have CI : Hid (∀ W, Below w.heap.size w W → Calls Tryz.prog 66 #[.agg h.cells, .string it] W fun e w' => e = .returned (.tuple #[.agg #[.string x.code, .string (x.nm 0), .int .i64 (x.fc 0), .string (x.nm 1), .int .i64 (x.fc 1), .string (x.nm 2), .int .i64 (x.fc 2), .string (x.nm 3), .int .i64 (x.fc 3), .int .i64 x.vol, .int .i64 x.wei, .bool x.lots, .bool x.serial, .bool x.chk], .bool ii]) ∧ Below W.heap.size W w') := Lib.hid (fun W hW => by have := frItem (hh.below hW) it; rw [hx, hii] at this; exact this)
 have CSH : Hid (∀ zn W, HT h L W → Calls Tryz.prog 126 #[.agg h.cells, .string zn, .string st, .string it, .int .i64 n] W fun e w' => e = .returned (.tuple #[.string ((sh zn).getD ⟨#[]⟩), .bool (sh zn).isSome]) ∧ Below W.heap.size W w') := Lib.hid (fun zn W hW => by rw [hsh]; exact rshelf_any h L zn st it n W hW)
 have HS3 : Hid ((Tryz.prog.info? 98).map (·.size) = some 3) := Lib.hid (by kernel_rfl)
 have hur := Tryz.underlying98
 clear hrt hre hii hx hxo hah htk hsh hmm
 obtain ⟨W0, hW0⟩ : ∃ W0, W0 = (w.alloc (.cells h.cells 37)) := ⟨_, rfl⟩
 have hb0 : Below w.heap.size w W0 := by rw [hW0]; exact (Below.refl _ _).alloc (Nat.le_refl _) _
 have hs0 : W0.heap.size = w.heap.size + 1 := by rw [hW0]; simp
 have HH : Hid (∀ W, Below W0.heap.size W0 W → W.heap[w.heap.size]? = some (.cells h.cells 37 (0, 0))) := Lib.hid (fun W hW => (hW.block _ (by omega)).trans (by
  rw [hW0]
  have hq := heap_alloc_new w (.cells h.cells 37)
  exact (by simpa using hq)))
 have HBW : Hid (∀ W, Below W0.heap.size W0 W → Below w.heap.size w W ∧ w.heap.size + 1 ≤ W.heap.size) := Lib.hid (fun W hW => ⟨hb0.trans (hW.mono (by omega)), by have := hW.size; omega⟩)
 have huh := Tryz.underlying37
 have HSH : Hid (∀ a : Hs, (Tryz.prog.info? 37).map (·.size) = some a.cells.size) := Lib.hid (fun a => by kernel_rfl)
 have HL5 : Hid (∀ W, Below W0.heap.size W0 W → W.cell? ⟨w.heap.size, 5, none⟩ = some (.slice (h.A 5) m (h.c 5)) ∧ w.heap.size < W.heap.size) := Lib.hid (fun W hW => ⟨by rw [cell_of_block (HH.out W hW), ← HMM.out]; rfl, by have := hW.size; omega⟩)
 have H0 := Lib.hid (Below.refl W0.heap.size W0)
 clear hb0 hs0 hh
 subst hW0
 go_enter Tryz.func85, Tryz.ntmps85
 go_wp2_with (first
  | (refine wpList_load_row rfl 37 (.tmp 4) rfl w.heap.size rfl _ _ _ _ (HH.out _ H0.out) huh rfl (HSH.out _) ?_)
  | fail)
 refine (CI.out _ (HBW.out _ H0.out).1).mono ?_
 rintro e w1 ⟨rfl, hb1⟩
 have H1 := Lib.hid (H0.out.trans (hb1.mono H0.out.size))
 clear hb1
 have H2 := Lib.hid (H1.out.alloc H1.out.size (.cells #[.string x.code, .string (x.nm 0), .int .i64 (x.fc 0), .string (x.nm 1), .int .i64 (x.fc 1), .string (x.nm 2), .int .i64 (x.fc 2), .string (x.nm 3), .int .i64 (x.fc 3), .int .i64 x.vol, .int .i64 x.wei, .bool x.lots, .bool x.serial, .bool x.chk] 87))
 cases ii with
 | false =>
  go_wp2_with fail
  go_ret2
  exact ⟨by rw [HRT.out, HRE.out]; rfl, (HBW.out _ H2.out).1⟩
 | true =>
  obtain ⟨d5, dlt⟩ := HL5.out _ H2.out
  obtain ⟨w3, hmk, hg3, hb3⟩ := madeBo (w1.alloc (.cells #[.string x.code, .string (x.nm 0), .int .i64 (x.fc 0), .string (x.nm 1), .int .i64 (x.fc 1), .string (x.nm 2), .int .i64 (x.fc 2), .string (x.nm 3), .int .i64 (x.fc 3), .int .i64 x.vol, .int .i64 x.wei, .bool x.lots, .bool x.serial, .bool x.chk] 87)) m hn5
  have H3 := Lib.hid (H2.out.trans (hb3.mono H2.out.size))
  obtain ⟨g, hg⟩ : ∃ g, g = (w1.alloc (.cells #[.string x.code, .string (x.nm 0), .int .i64 (x.fc 0), .string (x.nm 1), .int .i64 (x.fc 1), .string (x.nm 2), .int .i64 (x.fc 2), .string (x.nm 3), .int .i64 (x.fc 3), .int .i64 x.vol, .int .i64 x.wei, .bool x.lots, .bool x.serial, .bool x.chk] 87)).heap.size := ⟨_, rfl⟩
  have HGW : Hid ((w.alloc (.cells h.cells 37)).heap.size ≤ g) := Lib.hid (by rw [hg]; exact H2.out.size)
  rw [← hg] at hg3 hmk
  have HG3 := Lib.hid hg3
  clear hb3 hg3 hg
  go_wp2_with fail
  clear d5 dlt hmk
  go_loopw [13] (fun i wr => ∃ (k : Nat) (A : List Bool), k ≤ m ∧ i = .int .i64 (k : Int) ∧ Hid (A.length = m) ∧ Hid (A.count true = k) ∧ Hid (∀ q, q < A.length → freeB A q = false → tk q = false) ∧ Hid (wr.heap[g]? = some (.cells (bo A).toArray 4 (0, 0))) ∧ Hid (Below (w.alloc (.cells h.cells 37)).heap.size (w.alloc (.cells h.cells 37)) wr)) (fun i _ => m - (intOf i).toNat)
  case atStart => exact ⟨0, List.replicate m false, by omega, rfl, Lib.hid (by simp), Lib.hid (by simp [List.count_replicate]), Lib.hid (fun q hq hf => by
   rw [freeB_at hq] at hf
   simp at hf), HG3, H3⟩
  case round =>
   obtain ⟨k, A, hk, rfl, hAl, hAc, hAt, hAg, hw⟩ := hrel
   obtain ⟨d5, dlt⟩ := HL5.out _ hw.out
   by_cases hlt : k < m
   ·
    have HSEL := Lib.hid (sel_some (less := ah) (A := A) (by rw [hAc.out, hAl.out]; exact hlt))
    go_wp2_with fail
    clear d5 dlt
    obtain ⟨wv, hwv⟩ : ∃ wv, wv = wr := ⟨_, rfl⟩
    have HWV := Lib.hid hwv
    clear hwv
    go_loopw [14, 15] (fun v i wx => ∃ q : Nat, q ≤ m ∧ v = .int .i64 (Pl.atI (Pl.best ah (freeB A) q)) ∧ i = .int .i64 (q : Int) ∧ Hid (Below wv.heap.size wv wx)) (fun _ i _ => m - (intOf i).toNat)
    case atStart => exact ⟨0, by omega, rfl, rfl, Lib.hid (by rw [HWV.out]; exact Below.refl _ _)⟩
    case round =>
     obtain ⟨q, hq, rfl, rfl, hx⟩ := hrel
     have hwq := hw.out
     rw [← HWV.out] at hwq
     have hgq := hAg.out
     rw [← HWV.out] at hgq
     have HWX : Hid (Below (w.alloc (.cells h.cells 37)).heap.size (w.alloc (.cells h.cells 37)) wr) := Lib.hid (hwq.trans (hx.out.mono hwq.size))
     have HGX : Hid (wr.heap[g]? = some (.cells (bo A).toArray 4 (0, 0))) := Lib.hid ((hx.out.block _ (lt_of_block hgq)).trans hgq)
     clear hwq hgq
     obtain ⟨d5, dlt⟩ := HL5.out _ HWX.out
     obtain ⟨a, ha⟩ : ∃ a, Pl.best ah (freeB A) q = a := ⟨_, rfl⟩
     rw [ha]
     have HQ := Lib.hid ha
     obtain ⟨za, hza⟩ : ∃ z, Pl.atI a = z := ⟨_, rfl⟩
     rw [hza]
     have HZA := Lib.hid hza
     clear ha hza
     by_cases hqt : q < m
     ·
      have hql : q < A.length := by rw [hAl.out]; exact hqt
      have HTR : Hid (HT h L wr) := Lib.hid (HHT.out.below (HBW.out _ HWX.out).1)
      obtain ⟨b, off, hA, hb, r1⟩ := rule_at HTR.out (k := q) (by rw [← HNM.out]; exact hqt)
      obtain ⟨x1, hx1⟩ : ∃ x, rlA (L 5) q = x := ⟨_, rfl⟩
      have HXE := Lib.hid hx1
      rw [hx1] at r1
      obtain ⟨xi, xz, xr⟩ := x1
      obtain ⟨fq, hfq⟩ : ∃ z, A[q] = z := ⟨_, rfl⟩
      have HFQ : Hid (freeB A q = !fq) := Lib.hid (by rw [freeB_at hql, hfq])
      have GQ : Hid (∀ X : BW wr, X.W.cell? ⟨g, q, none⟩ = some (.bool fq) ∧ g < X.W.heap.size) := Lib.hid (fun X => by
       have h3 := (X.h.block _ (lt_of_block HGX.out)).trans HGX.out
       exact ⟨by rw [cell_of_block h3, List.getElem?_toArray, bo_at A q hql, hfq], lt_of_block h3⟩)
      have i1 : (0 : Int) ≤ (q : Int) := by omega
      have i2 : (q : Int) < (m : Int) := by omega
      rw [hA] at d5
      have HAB := Lib.hid hA
      have HBL := Lib.hid hb
      have HR1 := Lib.hid r1
      clear hA hb r1 hx1 hfq hql
      cases fq with
      | true =>
       have gq : wr.cell? ⟨g, q, none⟩ = some (.bool true) := (GQ.out ⟨wr, Below.refl _ _⟩).1
       have gl : g < wr.heap.size := (GQ.out ⟨wr, Below.refl _ _⟩).2
       have HV : Hid (Pl.best ah (freeB A) (q + 1) = a) := Lib.hid ((Pl.best_no (by rw [HFQ.out]; rfl)).trans HQ.out)
       go_wp2_with fail
       go_quiet (fail)
       go_wp2_with fail
       go_roundw
       case rel => exact ⟨q + 1, by omega, by rw [HV.out, HZA.out], by go_num, Lib.hid (below_drewN hx.out _)⟩
       case measure => simp [intOf]; omega
      | false =>
       cases a with
       | none =>
        obtain rfl : za = -1 := by rw [← HZA.out]; rfl
        have gq : wr.cell? ⟨g, q, none⟩ = some (.bool false) := (GQ.out ⟨wr, Below.refl _ _⟩).1
        have gl : g < wr.heap.size := (GQ.out ⟨wr, Below.refl _ _⟩).2
        have HV : Hid (Pl.best ah (freeB A) (q + 1) = some q) := Lib.hid (Pl.best_first (by rw [HFQ.out]; rfl) HQ.out)
        go_wp2_with fail
        go_quiet (fail)
        go_wp2_with fail
        go_roundw
        case rel => exact ⟨q + 1, by omega, by rw [HV.out]; rfl, by go_num, Lib.hid (below_drewN hx.out _)⟩
        case measure => simp [intOf]; omega
       | some j =>
        obtain rfl : za = (j : Int) := by rw [← HZA.out]; rfl
        have hjk := (Pl.best_lt HQ.out).1
        have hj1 : (0 : Int) ≤ (j : Int) := by omega
        have hj2 : (j : Int) < (m : Int) := by omega
        have hj3 : decide ((j : Int) < 0) = false := by simp
        obtain ⟨b2, off2, hA2, hb2, r2⟩ := rule_at HTR.out (k := j) (by rw [← HNM.out]; omega)
        rw [HAB.out] at hA2
        have hA3 : b = b2 ∧ off = off2 := by injection hA2 with h3; injection h3 with h4 h5 _; exact ⟨h4, h5⟩
        obtain ⟨rfl, rfl⟩ := hA3
        clear hA2 hb2
        obtain ⟨y, hy⟩ : ∃ y, rlA (L 5) j = y := ⟨_, rfl⟩
        have HYE := Lib.hid hy
        rw [hy] at r2
        obtain ⟨yi, yz, yr⟩ := y
        obtain ⟨nb, hnb⟩ : ∃ z, aheadR ⟨xi, xz, xr⟩ ⟨yi, yz, yr⟩ = z := ⟨_, rfl⟩
        have HAN : Hid (ah q j = nb) := Lib.hid (by rw [HAH.out, HXE.out, HYE.out]; exact hnb)
        have CX : Hid (∀ X : BW wr, Calls Tryz.prog 125 #[.agg #[.string xi, .string xz, .int .i64 xr], .agg #[.string yi, .string yz, .int .i64 yr]] X.W fun e w' => e = .returned (.bool nb) ∧ Below X.W.heap.size X.W w') := Lib.hid (fun X => by rw [← hnb]; exact rahead_any _ _ _ _ _ _ _)
        have RX : Hid (∀ X : BW wr, X.W.rangeAt b (off + q * 3) [.string xi, .string xz, .int .i64 xr]) := Lib.hid (fun X => rangeAt_below HR1.out HBL.out X.h)
        have RY : Hid (∀ X : BW wr, X.W.rangeAt b (off + j * 3) [.string yi, .string yz, .int .i64 yr]) := Lib.hid (fun X => rangeAt_below r2 HBL.out X.h)
        have x5 : ∀ X : BW wr, X.W.cell? ⟨w.heap.size, 5, none⟩ = some (.slice (some ⟨b, off, none⟩) m (h.c 5)) := fun X => by have := (HL5.out _ (HWX.out.trans (X.h.mono HWX.out.size))).1; rwa [HAB.out] at this
        have xg : ∀ X : BW wr, X.W.cell? ⟨g, q, none⟩ = some (.bool false) := fun X => (GQ.out X).1
        clear r2 hnb hy
        go_wp2_with fail
        clear d5 dlt
        refine wp_grow wr (by kernel_rfl) (by kernel_rfl) (Below.refl _ _) ?_
        simp only []
        iterate 13 go_big_quiet_step (fail)
        refine BigFrame.wpQuiet_want (by kernel_rfl) (fun K hK => quiet_load_mid 98 (.tmp 57) rfl b (off + q * 3) rfl [.string xi, .string xz, .int .i64 xr] _ (fun W ⟨X, hX⟩ => by rw [hX]; exact RX.out X) hur rfl HS3.out (hK _ ?_))
        simp only [ax]
        iterate 4 go_big_quiet_step (fail)
        refine BigFrame.wpQuiet_want (by kernel_rfl) (fun K hK => quiet_load_mid 98 (.tmp 62) rfl b (off + j * 3) rfl [.string yi, .string yz, .int .i64 yr] _ (fun W ⟨X, hX⟩ => by rw [hX]; exact RY.out X) hur rfl HS3.out (hK _ ?_))
        simp only [ax]
        go_big_quiet_step (exact grow_call _ (CX.out _))
        iterate 2 go_big_quiet_step (fail)
        refine wpQuiet_nil ?_
        intro X
        clear x5 xg
        obtain ⟨w6, hb6⟩ := X
        simp only []
        have H6 := Lib.hid (hx.out.trans (hb6.mono hx.out.size))
        clear hb6 CX RX RY GQ
        cases nb with
        | true =>
         have HV : Hid (Pl.best ah (freeB A) (q + 1) = some q) := Lib.hid (Pl.best_less (by rw [HFQ.out]; rfl) HQ.out HAN.out)
         go_wp2_with fail
         go_roundw
         case rel => exact ⟨q + 1, by omega, by rw [HV.out]; rfl, by go_num, H6⟩
         case measure => simp [intOf]; omega
        | false =>
         have HV : Hid (Pl.best ah (freeB A) (q + 1) = some j) := Lib.hid (Pl.best_keep (by rw [HFQ.out]; rfl) HQ.out HAN.out)
         go_wp2_with fail
         go_roundw
         case rel => exact ⟨q + 1, by omega, by rw [HV.out]; rfl, by go_num, H6⟩
         case measure => simp [intOf]; omega
     · obtain rfl : q = m := by omega
       obtain ⟨j, hj⟩ := HSEL.out
       rw [hAl.out, HQ.out] at hj
       subst hj
       obtain rfl : za = (j : Int) := by rw [← HZA.out]; rfl
       have hjk := Pl.best_lt HQ.out
       have hjl : j < A.length := by rw [hAl.out]; exact hjk.1
       have hjf : A[j] = false := by have := hjk.2; rw [freeB_at hjl] at this; simpa using this
       have gj : wr.cell? ⟨g, j, none⟩ = some (.bool false) := by rw [cell_of_block HGX.out, List.getElem?_toArray, bo_at A j hjl, hjf]
       have gf : wr.frozen? ⟨g, j, none⟩ = false := frozen_of_block HGX.out
       have gl : g < wr.heap.size := lt_of_block HGX.out
       obtain ⟨w4, hw4⟩ : ∃ w4, w4 = wr.setCell ⟨g, j, none⟩ (.bool true) := ⟨_, rfl⟩
       have H4 : Hid (Below (w.alloc (.cells h.cells 37)).heap.size (w.alloc (.cells h.cells 37)) w4) := Lib.hid (by rw [hw4]; exact HWX.out.setCell HGW.out _)
       have HG4 : Hid (w4.heap[g]? = some (.cells (bo (A.set j true)).toArray 4 (0, 0))) := Lib.hid (by rw [hw4, block_setCell HGX.out, bo_set])
       have HW4 := Lib.hid hw4
       have HAL4 : Hid ((A.set j true).length = q ∧ (A.set j true).count true = k + 1) := Lib.hid ⟨by rw [List.length_set]; exact hAl.out, by rw [set_count hjl hjf, hAc.out]⟩
       have HJL := Lib.hid hjl
       have hj1 : (0 : Int) ≤ (j : Int) := by omega
       have hj2 : (j : Int) < (q : Int) := by omega
       clear hjk hjl hjf hw4
       have HT4 : Hid (HT h L w4) := Lib.hid (HHT.out.below (HBW.out _ H4.out).1)
       obtain ⟨b, off, hA, hb, r1⟩ := rule_at HT4.out (k := j) (by rw [← HNM.out]; omega)
       obtain ⟨x1, hx1⟩ : ∃ x, rlA (L 5) j = x := ⟨_, rfl⟩
       have HXE := Lib.hid hx1
       rw [hx1] at r1
       obtain ⟨xi, xz, xr⟩ := x1
       have HR1 : Hid (w4.rangeAt b (off + j * 3) [.string xi, .string xz, .int .i64 xr]) := Lib.hid r1
       have HAB := Lib.hid hA
       clear hx1 r1 hb hA
       go_upto_region 15 with fail
       rw [← HW4.out]
       clear gj gf gl d5 dlt
       obtain ⟨d5, dlt⟩ := HL5.out _ H4.out
       rw [HAB.out] at d5
       obtain ⟨w5, hw5⟩ : ∃ w5, w5 = w4.alloc (.cells #[.string xi, .string xz, .int .i64 xr] 98) := ⟨_, rfl⟩
       have hb5 : Below w4.heap.size w4 w5 := by rw [hw5]; exact (Below.refl _ _).alloc (Nat.le_refl _) _
       have HX5 : Hid (w5.heap[w4.heap.size]? = some (.cells #[.string xi, .string xz, .int .i64 xr] 98 (0, 0))) := Lib.hid (by rw [hw5]; exact heap_alloc_new _ _)
       have HG5 := Lib.hid ((hb5.block _ (lt_of_block HG4.out)).trans HG4.out)
       have H5 := Lib.hid (H4.out.trans (hb5.mono H4.out.size))
       have HT5 := Lib.hid (HT4.out.below hb5)
       have HW5 := Lib.hid hw5
       clear hw5 hb5
       go_upto_region 16 with (first
        | (refine wpList_load_mid rfl 98 (.tmp 74) rfl b (off + j * 3) rfl [.string xi, .string xz, .int .i64 xr] _ HR1.out hur rfl HS3.out ?_)
        | fail)
       rw [← HW5.out]
       clear d5 dlt
       have y0 : w5.cell? ⟨w4.heap.size, 0, none⟩ = some (.string xi) := by rw [cell_of_block HX5.out]; rfl
       have y1 : w5.cell? ⟨w4.heap.size, 1, none⟩ = some (.string xz) := by rw [cell_of_block HX5.out]; rfl
       have ylt : w4.heap.size < w5.heap.size := lt_of_block HX5.out
       obtain ⟨ex, hex⟩ : ∃ z, xi.toList.isEmpty = z := ⟨_, rfl⟩
       obtain ⟨eq, heq⟩ : ∃ z, (xi.toList == it.toList) = z := ⟨_, rfl⟩
       have hne : (xi.toList != it.toList) = !eq := by rw [bne, heq]
       obtain ⟨sv, hsv⟩ : ∃ z, sh xz = z := ⟨_, rfl⟩
       have HTJ : Hid (tk j = ((ex || eq) && sv.isSome)) := Lib.hid (by rw [HTK.out, HXE.out, ← hex, ← heq, ← hsv]; rfl)
       have HSV : Hid (sh (rlA (L 5) j).zone = sv) := Lib.hid (by rw [HXE.out]; exact hsv)
       have CS5 : Hid (∀ W, HT h L W → Calls Tryz.prog 126 #[.agg h.cells, .string xz, .string st, .string it, .int .i64 n] W fun e w' => e = .returned (.tuple #[.string (sv.getD ⟨#[]⟩), .bool sv.isSome]) ∧ Below W.heap.size W w') := Lib.hid (fun W hW => by rw [← hsv]; exact CSH.out xz W hW)
       clear hsv
       cases ex with
       | true =>
        go_wp2_with (first
         | (refine wpList_load_row rfl 37 (.tmp 4) rfl w.heap.size rfl _ _ _ _ (HH.out _ H5.out) huh rfl (HSH.out _) ?_)
         | fail)
        refine (CS5.out _ HT5.out).mono ?_
        rintro e w6 ⟨rfl, hb6⟩
        have H6 := Lib.hid (H5.out.trans (hb6.mono H5.out.size))
        have HG6 := Lib.hid ((hb6.block _ (lt_of_block HG5.out)).trans HG5.out)
        clear hb6 y0 y1 ylt
        cases sv with
        | none =>
         have HTN : Hid (tk j = false) := Lib.hid (by rw [HTJ.out]; simp)
         go_wp2_with fail
         go_roundw
         case rel => exact ⟨k + 1, A.set j true, by omega, by go_num, Lib.hid HAL4.out.1, Lib.hid HAL4.out.2, Lib.hid (free_set HJL.out HTN.out hAt.out), HG6, H6⟩
         case measure => simp [intOf]; omega
        | some s5 =>
         have hbest : Pl.best ah tk q = some j := sel_found HWK.out HQ.out (by rw [HTJ.out]; rfl) (fun z hz hf => hAt.out z (by rw [hAl.out]; exact hz) hf)
         have HRV : Hid (rt = s5 ∧ re = 0) := Lib.hid ⟨by rw [HRT.out, hbest]; show (sh (rlA (L 5) j).zone).getD ⟨#[]⟩ = s5; rw [HSV.out]; rfl, by rw [HRE.out, hbest]; rfl⟩
         clear hbest
         go_wp2_with fail
         go_ret2
         exact ⟨by rw [HRV.out.1, HRV.out.2]; rfl, (HBW.out _ H6.out).1⟩
       | false =>
        cases eq with
        | true =>
         go_wp2_with (first
          | (refine wpList_load_row rfl 37 (.tmp 4) rfl w.heap.size rfl _ _ _ _ (HH.out _ H5.out) huh rfl (HSH.out _) ?_)
          | fail)
         refine (CS5.out _ HT5.out).mono ?_
         rintro e w6 ⟨rfl, hb6⟩
         have H6 := Lib.hid (H5.out.trans (hb6.mono H5.out.size))
         have HG6 := Lib.hid ((hb6.block _ (lt_of_block HG5.out)).trans HG5.out)
         clear hb6 y0 y1 ylt
         cases sv with
         | none =>
          have HTN : Hid (tk j = false) := Lib.hid (by rw [HTJ.out]; simp)
          go_wp2_with fail
          go_roundw
          case rel => exact ⟨k + 1, A.set j true, by omega, by go_num, Lib.hid HAL4.out.1, Lib.hid HAL4.out.2, Lib.hid (free_set HJL.out HTN.out hAt.out), HG6, H6⟩
          case measure => simp [intOf]; omega
         | some s5 =>
          have hbest : Pl.best ah tk q = some j := sel_found HWK.out HQ.out (by rw [HTJ.out]; rfl) (fun z hz hf => hAt.out z (by rw [hAl.out]; exact hz) hf)
          have HRV : Hid (rt = s5 ∧ re = 0) := Lib.hid ⟨by rw [HRT.out, hbest]; show (sh (rlA (L 5) j).zone).getD ⟨#[]⟩ = s5; rw [HSV.out]; rfl, by rw [HRE.out, hbest]; rfl⟩
          clear hbest
          go_wp2_with fail
          go_ret2
          exact ⟨by rw [HRV.out.1, HRV.out.2]; rfl, (HBW.out _ H6.out).1⟩
        | false =>
         have HTN : Hid (tk j = false) := Lib.hid (by rw [HTJ.out]; rfl)
         go_wp2_with fail
         go_roundw
         case rel => exact ⟨k + 1, A.set j true, by omega, by go_num, Lib.hid HAL4.out.1, Lib.hid HAL4.out.2, Lib.hid (free_set HJL.out HTN.out hAt.out), HG5, H5⟩
         case measure => simp [intOf]; omega
   · obtain rfl : k = m := by omega
     have hbest : Pl.best ah tk A.length = none := sel_none (by rw [hAc.out, hAl.out]) hAt.out
     rw [hAl.out] at hbest
     have HRV : Hid (rt = ⟨#[]⟩ ∧ re = 30) := Lib.hid ⟨by rw [HRT.out, hbest]; rfl, by rw [HRE.out, hbest]; rfl⟩
     clear hbest
     go_wp2_with fail
     go_ret2
     exact ⟨by rw [HRV.out.1, HRV.out.2]; rfl, (HBW.out _ hw.out).1⟩

end Go.Proofs.YtgbilfkjfeheaaaGreat
