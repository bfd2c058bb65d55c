/-
 CONTRACTS of the code's table of quants, and of its Find. (By wip/tools/gen_qcode.py.)
 CONTRACTS of the code's free, inRange, with. (By wip/tools/gen_qcode.py.)
 CONTRACTS of the code's Take, Hold. (By wip/tools/gen_qcode.py.)
 (By wip/tools/merge.py.)
-/
import Derived.Test.YtlkmccmbpnbgbaaGreatKQOrd
import Derived.Test.YtlkmccmbpnbgbaaGreatKP
import Derived.Test.YtlkmccmbpnbgbaaGreatKL
import Derived.Test.YtlkmccmbpnbgbaaGreatKD
import Derived.Test.YtlkmccmbpnbgbaaGreatJHead
import Derived.Test.YtlkmccmbpnbgbaaGreatGT
import Derived.Test.YtlkmccmbpnbgbaaGreatOPl
import Derived.Deep.CutRange
namespace Go.Proofs.YtlkmccmbpnbgbaaGreat
set_option linter.unusedVariables false
open Go.RowKit
open Pl (firstG findG putG dropG It)

/-- The table of quants. -/
abbrev tvQ : Value := .func (.func 162) #[] #[]
attribute [local go_sem] store_func
theorem tabQ_any (w : World) : Calls Tryz.prog 147 #[] w fun e w' => e = .returned (.agg #[tvQ]) ∧ Below w.heap.size w w' := by
 go_enter Tryz.func147, Tryz.ntmps147
 go_wp2
 refine bodyPost_ret (v := .agg #[tvQ]) ?_ rfl ⟨rfl, ?_⟩
 · simp [results, Tryz.results147, go_sem]
 · exact (Below.refl _ _).alloc (Nat.le_refl _) _

set_option maxRecDepth 100000 in
set_option maxHeartbeats 3200000 in
theorem cfindq (h : Hs) (L : List (List Value)) (kb ki kl : ByteArray) (ks : Int) (w : World) (hn : h.n 4 = L.length) (hn6 : h.n 4 ≤ 1000000) (hL : Things kQuant L) (hr : Rd w w.heap.size (h.A 4) L.flatten) :
 Calls Tryz.prog 128 #[.agg h.cells, .agg #[.string kb, .string ki, .string kl, .int .i64 ks]] w fun e w' => e = .returned (.tuple #[.agg (gotQ L (Ky.mk kb ki kl ks)).toArray, .bool (atQ L (Ky.mk kb ki kl ks)).isSome]) ∧ Below w.heap.size w w' := by
 have HFIW := Lib.hid (fun W (hW : Below w.heap.size w W) => findQuant (h.A 4) (h.n 4) (h.c 4) 162 #[] ordQuant [.string kb, .string ki, .string kl, .int .i64 ks, .int .i64 0, .int .i64 0] L W hn (by omega) hL (Qn.fits (Qn.mk kb ki kl ks 0 0)) ((hr.below hW).mono hW.size) (tellsQ W))
 have HEK : findG ordQuant L [.string kb, .string ki, .string kl, .int .i64 ks, .int .i64 0, .int .i64 0] = atQ L (Ky.mk kb ki kl ks) := findG_atQ L (Qn.mk kb ki kl ks 0 0).cells
 rw [HEK] at HFIW
 clear HEK
 obtain ⟨m, hmm⟩ : ∃ m, h.n 4 = m := ⟨_, rfl⟩
 rw [hmm] at hn hn6 HFIW
 have HNM := Lib.hid hn
 have HMM := Lib.hid hmm
 have HLL := Lib.hid hL
 have HRR := Lib.hid hr
 have HS6 : Hid (∀ y, Fits kQuant y → (Tryz.prog.info? 62).map (·.size) = some y.toArray.size) := Lib.hid (fun y hy => by rw [show (Tryz.prog.info? 62).map (·.size) = some 6 from by kernel_rfl, List.size_toArray, hy.length]; rfl)
 obtain ⟨W0, hW0⟩ : ∃ W0, W0 = (((w.alloc (.cells h.cells 37)).alloc (.cells #[.string kb, .string ki, .string kl, .int .i64 ks] 44)).alloc (.cells #[.string ⟨#[]⟩, .string ⟨#[]⟩, .string ⟨#[]⟩, .int .i64 0, .int .i64 0, .int .i64 0] 62)) := ⟨_, rfl⟩
 have hb0 : Below w.heap.size w W0 := by rw [hW0]; exact (((Below.refl _ _).alloc (Nat.le_refl _) _).alloc (by simp <;> omega) _).alloc (by simp <;> omega) _
 have hs0 : W0.heap.size = w.heap.size + 3 := by rw [hW0]; simp
 have HH : Hid (∀ W, Below W0.heap.size W0 W → W.heap[w.heap.size]? = some (.cells h.cells 37 (0, 0))) := Lib.hid (fun W hW => (hW.block _ (by omega)).trans (by
  rw [hW0]
  have hq := heap_alloc_new w (.cells h.cells 37)
  exact (Below.heap_alloc _ _ _ (by simp <;> omega)).trans ((Below.heap_alloc _ _ _ (by simp <;> omega)).trans ((by simpa using hq)))))
 have HK : Hid (∀ W, Below W0.heap.size W0 W → W.heap[w.heap.size + 1]? = some (.cells #[.string kb, .string ki, .string kl, .int .i64 ks] 44 (0, 0))) := Lib.hid (fun W hW => (hW.block _ (by omega)).trans (by
  rw [hW0]
  have hq := heap_alloc_new (w.alloc (.cells h.cells 37)) (.cells #[.string kb, .string ki, .string kl, .int .i64 ks] 44)
  exact (Below.heap_alloc _ _ _ (by simp <;> omega)).trans ((by simpa using hq))))
 have HR : Hid (∀ W, Below W0.heap.size W0 W → W.heap[w.heap.size + 2]? = some (.cells #[.string ⟨#[]⟩, .string ⟨#[]⟩, .string ⟨#[]⟩, .int .i64 0, .int .i64 0, .int .i64 0] 62 (0, 0))) := Lib.hid (fun W hW => (hW.block _ (by omega)).trans (by
  rw [hW0]
  have hq := heap_alloc_new ((w.alloc (.cells h.cells 37)).alloc (.cells #[.string kb, .string ki, .string kl, .int .i64 ks] 44)) (.cells #[.string ⟨#[]⟩, .string ⟨#[]⟩, .string ⟨#[]⟩, .int .i64 0, .int .i64 0, .int .i64 0] 62)
  exact (by simpa using hq)))
 have HBW : Hid (∀ W, Below W0.heap.size W0 W → Below w.heap.size w W ∧ w.heap.size + 3 ≤ W.heap.size) := Lib.hid (fun W hW => ⟨hb0.trans (hW.mono (by omega)), by have := hW.size; omega⟩)
 have huh := Tryz.underlying37
 have HSH : Hid (∀ a : Hs, (Tryz.prog.info? 37).map (·.size) = some a.cells.size) := Lib.hid (fun a => by kernel_rfl)
 have huHK := Tryz.underlying44
 have HSHK : Hid ((Tryz.prog.info? 44).map (·.size) = some 4) := Lib.hid (by kernel_rfl)
 have HCHK : Hid (∀ W, Below W0.heap.size W0 W → W.cell? ⟨w.heap.size + 1, 0, none⟩ = some (.string kb) ∧ W.cell? ⟨w.heap.size + 1, 1, none⟩ = some (.string ki) ∧ W.cell? ⟨w.heap.size + 1, 2, none⟩ = some (.string kl) ∧ W.cell? ⟨w.heap.size + 1, 3, none⟩ = some (.int .i64 ks) ∧ w.heap.size + 1 < W.heap.size) := Lib.hid (fun W hW => ⟨by rw [cell_of_block (HK.out W hW)]; rfl, by rw [cell_of_block (HK.out W hW)]; rfl, by rw [cell_of_block (HK.out W hW)]; rfl, by rw [cell_of_block (HK.out W hW)]; rfl, by have := hW.size; omega⟩)
 have huHR := Tryz.underlying62
 have HSHR : Hid ((Tryz.prog.info? 62).map (·.size) = some 6) := Lib.hid (by kernel_rfl)
 have HCHR : Hid (∀ W, Below W0.heap.size W0 W → W.cell? ⟨w.heap.size + 2, 0, none⟩ = some (.string ⟨#[]⟩) ∧ W.cell? ⟨w.heap.size + 2, 1, none⟩ = some (.string ⟨#[]⟩) ∧ W.cell? ⟨w.heap.size + 2, 2, none⟩ = some (.string ⟨#[]⟩) ∧ W.cell? ⟨w.heap.size + 2, 3, none⟩ = some (.int .i64 0) ∧ W.cell? ⟨w.heap.size + 2, 4, none⟩ = some (.int .i64 0) ∧ W.cell? ⟨w.heap.size + 2, 5, none⟩ = some (.int .i64 0) ∧ w.heap.size + 2 < W.heap.size) := Lib.hid (fun W hW => ⟨by rw [cell_of_block (HR.out W hW)]; rfl, by rw [cell_of_block (HR.out W hW)]; rfl, by rw [cell_of_block (HR.out W hW)]; rfl, by rw [cell_of_block (HR.out W hW)]; rfl, by rw [cell_of_block (HR.out W hW)]; rfl, by rw [cell_of_block (HR.out W hW)]; rfl, by have := hW.size; omega⟩)
 have HL4 : Hid (∀ W, Below W0.heap.size W0 W → W.cell? ⟨w.heap.size, 4, none⟩ = some (.slice (h.A 4) m (h.c 4)) ∧ w.heap.size < W.heap.size) := Lib.hid (fun W hW => ⟨by rw [cell_of_block (HH.out W hW), ← HMM.out]; rfl, by have := hW.size; omega⟩)
 have HB0 := Lib.hid hb0
 have H : Hid (Below W0.heap.size W0 W0.drew) := Lib.hid (Below.refl _ _).drew
 clear hb0 hs0 hn hn6 hL hr hmm
 obtain ⟨o, ho⟩ : ∃ o, atQ L (Ky.mk kb ki kl ks) = o := ⟨_, rfl⟩
 rw [ho] at HFIW ⊢
 have HO := Lib.hid ho
 clear ho
 cases o with
 | none =>
  rw [firstV_none] at HFIW
  go_enter Tryz.func128, Tryz.ntmps128
  go_wp2_with fail
  rw [← hW0]
  clear hW0
  go_region_held3 (fun w' => w'.cell? ⟨w.heap.size, 4, none⟩ = some (.slice (h.A 4) m (h.c 4)) ∧ w'.cell? ⟨w.heap.size + 1, 0, none⟩ = some (.string kb) ∧ w'.cell? ⟨w.heap.size + 1, 1, none⟩ = some (.string ki) ∧ w'.cell? ⟨w.heap.size + 1, 2, none⟩ = some (.string kl) ∧ w'.cell? ⟨w.heap.size + 1, 3, none⟩ = some (.int .i64 ks))
   (first | exact ⟨(HL4.out _ H.out).1, (HCHK.out _ H.out).1, (HCHK.out _ H.out).2.1, (HCHK.out _ H.out).2.2.1, (HCHK.out _ H.out).2.2.2.1⟩)
   (first
    | (go_at_call 147; refine (tabQ_any _).mono ?_; rintro e w' ⟨rfl, hb'⟩; have H := Lib.hid (H.out.trans (hb'.mono H.out.size)); clear hb')
    | (go_at_call 148; refine (HFIW.out _ (HBW.out _ H.out).1).mono ?_; rintro e w' ⟨rfl, hb'⟩; have H := Lib.hid (H.out.trans (hb'.mono H.out.size)); clear hb'))
  have HR1 := Lib.hid (HR.out _ H.out)
  have HZO : Hid ((#[.string ⟨#[]⟩, .string ⟨#[]⟩, .string ⟨#[]⟩, .int .i64 0, .int .i64 0, .int .i64 0] : Array Value).all (·.oneCell') = true) := Lib.hid (by simp [Value.oneCell'])
  have HSZ : Hid ((Tryz.prog.info? 62).map (·.size) = some (#[.string ⟨#[]⟩, .string ⟨#[]⟩, .string ⟨#[]⟩, .int .i64 0, .int .i64 0, .int .i64 0] : Array Value).size) := Lib.hid (by kernel_rfl)
  have HG2 : Hid (gotQ L (Ky.mk kb ki kl ks) = zeroQuant) := Lib.hid (by unfold gotQ; rw [HO.out])
  go_wp2_with (first
   | (refine wpList_store_row rfl 62 (.tmp 4) (.tmp 19) rfl (w.heap.size + 2) #[.string ⟨#[]⟩, .string ⟨#[]⟩, .string ⟨#[]⟩, .int .i64 0, .int .i64 0, .int .i64 0] rfl rfl _ _ HR1.out HSZ.out rfl HZO.out ?_)
   | fail)
  exact bodyPost_ret (results_row_tmp rfl _ _ (w.heap.size + 2) _ _ _ _ rfl (setRow_heap _ _ _ _ _ _ HR1.out) huHR rfl HSZ.out) rfl ⟨by rw [HG2.out]; rfl, setRow_below (HBW.out _ H.out).1 (by omega) _⟩
 | some i =>
  rw [firstV_some] at HFIW
  have hl : i < L.length := Pl.firstG_lt HO.out
  have hin : i < m := by rw [HNM.out]; exact hl
  obtain ⟨b, off, hA, hb, hc⟩ := HRR.out.thing HLL.out (by decide) hl
  have HG : Hid (gotQ L (Ky.mk kb ki kl ks) = L[i]) := Lib.hid (by unfold gotQ; rw [HO.out]; simp only []; rw [List.getD_eq_getElem?_getD, List.getElem?_eq_getElem hl]; rfl)
  have fx := HLL.out _ (List.getElem_mem hl)
  have r1 := hc i hl
  rw [show kQuant.length = 6 from rfl] at r1
  obtain ⟨x, hx⟩ : ∃ x, L[i] = x := ⟨_, rfl⟩
  rw [hx] at fx r1 HG
  have HF := Lib.hid fx
  have HR2 : Hid (∀ W, Below W0.heap.size W0 W → W.rangeAt b (off + i * 6) x) := Lib.hid (fun W hW => rangeAt_below r1 hb (HBW.out W hW).1)
  have HIX : Hid ((Tryz.prog.info? 62).map (·.size) = some x.length) := Lib.hid (by have := HS6.out x fx; rwa [List.size_toArray] at this)
  have HOZ : Hid ((#[.string ⟨#[]⟩, .string ⟨#[]⟩, .string ⟨#[]⟩, .int .i64 0, .int .i64 0, .int .i64 0] : Array Value).size = x.toArray.size) := Lib.hid (by rw [List.size_toArray, List.size_toArray, fx.length]; rfl)
  have HOC : Hid (x.toArray.all (·.oneCell') = true) := Lib.hid (all_oneCell_toArray (fits_one fx))
  have h1 : (0 : Int) ≤ (i : Int) := by omega
  have h2 : (i : Int) < (m : Int) := by omega
  rw [hA] at HL4 HFIW
  clear hc r1 hx fx hb hA hl
  go_enter Tryz.func128, Tryz.ntmps128
  go_wp2_with fail
  rw [← hW0]
  clear hW0
  go_region_held3 (fun w' => w'.cell? ⟨w.heap.size, 4, none⟩ = some (.slice (some ⟨b, off, none⟩) m (h.c 4)) ∧ w'.cell? ⟨w.heap.size + 1, 0, none⟩ = some (.string kb) ∧ w'.cell? ⟨w.heap.size + 1, 1, none⟩ = some (.string ki) ∧ w'.cell? ⟨w.heap.size + 1, 2, none⟩ = some (.string kl) ∧ w'.cell? ⟨w.heap.size + 1, 3, none⟩ = some (.int .i64 ks))
   (first | exact ⟨(HL4.out _ H.out).1, (HCHK.out _ H.out).1, (HCHK.out _ H.out).2.1, (HCHK.out _ H.out).2.2.1, (HCHK.out _ H.out).2.2.2.1⟩)
   (first
    | (go_at_call 147; refine (tabQ_any _).mono ?_; rintro e w' ⟨rfl, hb'⟩; have H := Lib.hid (H.out.trans (hb'.mono H.out.size)); clear hb')
    | (go_at_call 148; refine (HFIW.out _ (HBW.out _ H.out).1).mono ?_; rintro e w' ⟨rfl, hb'⟩; have H := Lib.hid (H.out.trans (hb'.mono H.out.size)); clear hb'))
  have HR1 := Lib.hid (HR.out _ H.out)
  have HX1 := Lib.hid (HR2.out _ H.out)
  have c0 := (HL4.out _ H.out).1
  have c1 := (HL4.out _ H.out).2
  go_wp2_with (first
   | (refine wpList_load_mid rfl 62 (.tmp 23) rfl b (off + i * 6) rfl x _ HX1.out huHR rfl HIX.out ?_)
   | (refine wpList_store_row rfl 62 (.tmp 4) (.tmp 24) rfl (w.heap.size + 2) x.toArray rfl rfl _ _ HR1.out (HS6.out _ HF.out) HOZ.out HOC.out ?_)
   | fail)
  exact bodyPost_ret (results_row_tmp rfl _ _ (w.heap.size + 2) _ _ _ _ rfl (setRow_heap _ _ _ _ _ _ HR1.out) huHR rfl (HS6.out _ HF.out)) rfl ⟨by rw [HG.out]; rfl, setRow_below (HBW.out _ H.out).1 (by omega) _⟩

theorem fcq {h : Hs} {L : Nat → List (List Value)} {w : World} (hh : HT h L w) (kb ki kl : ByteArray) (ks : Int) : Calls Tryz.prog 128 #[.agg h.cells, .agg #[.string kb, .string ki, .string kl, .int .i64 ks]] w fun e w' => e = .returned (.tuple #[.agg (gotQ (L 4) (Ky.mk kb ki kl ks)).toArray, .bool (atQ (L 4) (Ky.mk kb ki kl ks)).isSome]) ∧ Below w.heap.size w w' :=
 cfindq h (L 4) kb ki kl ks w (hh 4 (by decide)).1 (hh 4 (by decide)).2.1 (hh 4 (by decide)).2.2.1 (hh 4 (by decide)).2.2.2
end Go.Proofs.YtlkmccmbpnbgbaaGreat

namespace Go.Proofs.YtlkmccmbpnbgbaaGreat
set_option linter.unusedVariables false
open Go.RowKit
open Pl (firstG findG putG dropG It)

theorem cfree (qb qi ql : ByteArray) (qs qq qh : Int) (w : World) : Calls Tryz.prog 130 #[.agg #[.string qb, .string qi, .string ql, .int .i64 qs, .int .i64 qq, .int .i64 qh]] w fun e w' => e = .returned (.int .i64 (wrap64 (qq - qh))) ∧ w' = w.alloc (.cells #[.string qb, .string qi, .string ql, .int .i64 qs, .int .i64 qq, .int .i64 qh] 62) := by
 go_enter Tryz.func130, Tryz.ntmps130
 go_wp2_with fail
 go_ret
 simp
theorem cinr (n lo hi : Int) (w : World) : Calls Tryz.prog 129 #[.int .i64 n, .int .i64 lo, .int .i64 hi] w fun e w' => e = .returned (.bool (decide (lo ≤ n) && decide (n ≤ hi))) ∧ w' = w := by
 by_cases h1 : lo ≤ n
 · by_cases h2 : n ≤ hi
   · go_enter Tryz.func129, Tryz.ntmps129
     go_wp2_with fail
     go_ret
     simp [h1, h2]
   · go_enter Tryz.func129, Tryz.ntmps129
     go_wp2_with fail
     go_ret
     simp; omega
 · go_enter Tryz.func129, Tryz.ntmps129
   go_wp2_with fail
   go_ret
   simp; omega

set_option maxRecDepth 100000 in
set_option maxHeartbeats 3200000 in
theorem cwith (h : Hs) (L : Nat → List (List Value)) (qb qi ql : ByteArray) (qs qq qh : Int) (w : World) (hh : HT h L w) (hn4 : h.n 4 ≤ 9000) (hc1 : h.n 4 ≤ h.c 4 ∧ h.c 4 ≤ 9223372036854775807) :
 Calls Tryz.prog 131 #[.agg h.cells, .agg #[.string qb, .string qi, .string ql, .int .i64 qs, .int .i64 qq, .int .i64 qh]] w fun e w' => Below w.heap.size w w' ∧ ∃ A n c, n = (upQ (L 4) (Qn.mk qb qi ql qs qq qh)).length ∧ w'.ownsRow w.heap.size 62 6 (.slice A n c) n (upQ (L 4) (Qn.mk qb qi ql qs qq qh)).flatten ∧ e = .returned (.agg (h.set 4 A n c).cells) := by
 have HPD := Lib.hid (fun W (hW : Below w.heap.size w W) => dropQuant (h.A 4) (h.n 4) (h.c 4) 162 #[] ordQuant [.string qb, .string qi, .string ql, .int .i64 qs, .int .i64 qq, .int .i64 qh] (L 4) W (hh 4 (by decide)).1 hc1.1 hc1.2 (by omega) (hh 4 (by decide)).2.2.1 (Qn.fits (Qn.mk qb qi ql qs qq qh)) ((hh.below hW) 4 (by decide)).2.2.2 (tellsQ W))
 have HPU := Lib.hid (fun W (hW : Below w.heap.size w W) => putQuant (h.A 4) (h.n 4) (h.c 4) 162 #[] ordQuant [.string qb, .string qi, .string ql, .int .i64 qs, .int .i64 qq, .int .i64 qh] (L 4) W (hh 4 (by decide)).1 hc1.1 hc1.2 (by omega) (hh 4 (by decide)).2.2.1 (Qn.fits (Qn.mk qb qi ql qs qq qh)) ((hh.below hW) 4 (by decide)).2.2.2 (tellsQ W))
 have HUP : Hid (upQ (L 4) (Qn.mk qb qi ql qs qq qh) = if qq = 0 then dropG ordQuant (L 4) [.string qb, .string qi, .string ql, .int .i64 qs, .int .i64 qq, .int .i64 qh] else putG ordQuant (L 4) [.string qb, .string qi, .string ql, .int .i64 qs, .int .i64 qq, .int .i64 qh]) := Lib.hid rfl
 obtain ⟨lx, hlx⟩ : ∃ l, upQ (L 4) (Qn.mk qb qi ql qs qq qh) = l := ⟨_, rfl⟩
 rw [hlx] at HUP ⊢
 obtain ⟨m, hmm⟩ : ∃ m, h.n 4 = m := ⟨_, rfl⟩
 rw [hmm] at HPD HPU hn4
 have HMM := Lib.hid hmm
 clear hlx hmm
 obtain ⟨W0, hW0⟩ : ∃ W0, W0 = (((w.alloc (.cells h.cells 37)).alloc (.cells #[.string qb, .string qi, .string ql, .int .i64 qs, .int .i64 qq, .int .i64 qh] 62)).alloc (.cells #[.slice none 0 0, .slice none 0 0, .slice none 0 0, .slice none 0 0, .slice none 0 0, .slice none 0 0, .slice none 0 0, .slice none 0 0, .slice none 0 0, .slice none 0 0, .slice none 0 0, .slice none 0 0, .slice none 0 0, .slice none 0 0, .int .i64 0] 37)) := ⟨_, rfl⟩
 have hb0 : Below w.heap.size w W0 := by rw [hW0]; exact (((Below.refl _ _).alloc (Nat.le_refl _) _).alloc (by simp <;> omega) _).alloc (by simp <;> omega) _
 have hs0 : W0.heap.size = w.heap.size + 3 := by rw [hW0]; simp
 have HH : Hid (∀ W, Below W0.heap.size W0 W → W.heap[w.heap.size]? = some (.cells h.cells 37 (0, 0))) := Lib.hid (fun W hW => (hW.block _ (by omega)).trans (by
  rw [hW0]
  have hq := heap_alloc_new w (.cells h.cells 37)
  exact (Below.heap_alloc _ _ _ (by simp <;> omega)).trans ((Below.heap_alloc _ _ _ (by simp <;> omega)).trans ((by simpa using hq)))))
 have HX : Hid (∀ W, Below W0.heap.size W0 W → W.heap[w.heap.size + 1]? = some (.cells #[.string qb, .string qi, .string ql, .int .i64 qs, .int .i64 qq, .int .i64 qh] 62 (0, 0))) := Lib.hid (fun W hW => (hW.block _ (by omega)).trans (by
  rw [hW0]
  have hq := heap_alloc_new (w.alloc (.cells h.cells 37)) (.cells #[.string qb, .string qi, .string ql, .int .i64 qs, .int .i64 qq, .int .i64 qh] 62)
  exact (Below.heap_alloc _ _ _ (by simp <;> omega)).trans ((by simpa using hq))))
 have HZ : Hid (∀ W, Below W0.heap.size W0 W → W.heap[w.heap.size + 2]? = some (.cells Hs.zero 37 (0, 0))) := Lib.hid (fun W hW => (hW.block _ (by omega)).trans (by
  rw [hW0]
  have hq := heap_alloc_new ((w.alloc (.cells h.cells 37)).alloc (.cells #[.string qb, .string qi, .string ql, .int .i64 qs, .int .i64 qq, .int .i64 qh] 62)) (.cells #[.slice none 0 0, .slice none 0 0, .slice none 0 0, .slice none 0 0, .slice none 0 0, .slice none 0 0, .slice none 0 0, .slice none 0 0, .slice none 0 0, .slice none 0 0, .slice none 0 0, .slice none 0 0, .slice none 0 0, .slice none 0 0, .int .i64 0] 37)
  exact (by simpa [Hs.zero] using hq)))
 have HBW : Hid (∀ W, Below W0.heap.size W0 W → Below w.heap.size w W ∧ w.heap.size + 3 ≤ W.heap.size) := Lib.hid (fun W hW => ⟨hb0.trans (hW.mono (by omega)), by have := hW.size; omega⟩)
 have huh := Tryz.underlying37
 have HSH : Hid (∀ a : Hs, (Tryz.prog.info? 37).map (·.size) = some a.cells.size) := Lib.hid (fun a => by kernel_rfl)
 have HSQ : Hid ((Tryz.prog.info? 37).map (·.size) = some Hs.zero.size) := Lib.hid (by kernel_rfl)
 have H1C : Hid (∀ a : Hs, a.cells.all (·.oneCell') = true) := Lib.hid (fun a => by simp [Hs.cells, Value.oneCell'])
 have H1Q : Hid (Hs.zero.all (·.oneCell') = true) := Lib.hid (by simp [Hs.zero, Value.oneCell'])
 have huHX := Tryz.underlying62
 have HSHX : Hid ((Tryz.prog.info? 62).map (·.size) = some 6) := Lib.hid (by kernel_rfl)
 have HCHX : Hid (∀ W, Below W0.heap.size W0 W → W.cell? ⟨w.heap.size + 1, 0, none⟩ = some (.string qb) ∧ W.cell? ⟨w.heap.size + 1, 1, none⟩ = some (.string qi) ∧ W.cell? ⟨w.heap.size + 1, 2, none⟩ = some (.string ql) ∧ W.cell? ⟨w.heap.size + 1, 3, none⟩ = some (.int .i64 qs) ∧ W.cell? ⟨w.heap.size + 1, 4, none⟩ = some (.int .i64 qq) ∧ W.cell? ⟨w.heap.size + 1, 5, none⟩ = some (.int .i64 qh) ∧ w.heap.size + 1 < W.heap.size) := Lib.hid (fun W hW => ⟨by rw [cell_of_block (HX.out W hW)]; rfl, by rw [cell_of_block (HX.out W hW)]; rfl, by rw [cell_of_block (HX.out W hW)]; rfl, by rw [cell_of_block (HX.out W hW)]; rfl, by rw [cell_of_block (HX.out W hW)]; rfl, by rw [cell_of_block (HX.out W hW)]; rfl, by have := hW.size; omega⟩)
 have HLI : Hid (∀ W, Below W0.heap.size W0 W → W.cell? ⟨w.heap.size, 4, none⟩ = some (.slice (h.A 4) m (h.c 4)) ∧ w.heap.size < W.heap.size) := Lib.hid (fun W hW => ⟨by rw [cell_of_block (HH.out W hW), ← HMM.out]; rfl, by have := hW.size; omega⟩)
 have H0 := Lib.hid (Below.refl W0.heap.size W0)
 clear hb0 hs0 hh hc1
 subst hW0
 go_enter Tryz.func131, Tryz.ntmps131
 obtain ⟨hx0, hx1, hx2, hx3, hx4, hx5, hlthx⟩ := HCHX.out _ H0.out
 by_cases h0 : qq = 0
 · have hz0 : (qq == 0) = true := by simpa using h0
   have HQ0 := Lib.hid h0
   clear h0
   have HE : Hid (lx = dropG ordQuant (L 4) [.string qb, .string qi, .string ql, .int .i64 qs, .int .i64 qq, .int .i64 qh]) := Lib.hid (by rw [HUP.out, if_pos HQ0.out])
   rw [← HE.out] at HPD
   obtain ⟨wB, hwB⟩ : ∃ W, W = (((w.alloc (.cells h.cells 37)).alloc (.cells #[.string qb, .string qi, .string ql, .int .i64 qs, .int .i64 qq, .int .i64 qh] 62)).alloc (.cells #[.slice none 0 0, .slice none 0 0, .slice none 0 0, .slice none 0 0, .slice none 0 0, .slice none 0 0, .slice none 0 0, .slice none 0 0, .slice none 0 0, .slice none 0 0, .slice none 0 0, .slice none 0 0, .slice none 0 0, .slice none 0 0, .int .i64 0] 37)) := ⟨_, rfl⟩
   have HWB0 := Lib.hid hwB
   have hob : Below (((w.alloc (.cells h.cells 37)).alloc (.cells #[.string qb, .string qi, .string ql, .int .i64 qs, .int .i64 qq, .int .i64 qh] 62)).alloc (.cells #[.slice none 0 0, .slice none 0 0, .slice none 0 0, .slice none 0 0, .slice none 0 0, .slice none 0 0, .slice none 0 0, .slice none 0 0, .slice none 0 0, .slice none 0 0, .slice none 0 0, .slice none 0 0, .slice none 0 0, .slice none 0 0, .int .i64 0] 37)).heap.size (((w.alloc (.cells h.cells 37)).alloc (.cells #[.string qb, .string qi, .string ql, .int .i64 qs, .int .i64 qq, .int .i64 qh] 62)).alloc (.cells #[.slice none 0 0, .slice none 0 0, .slice none 0 0, .slice none 0 0, .slice none 0 0, .slice none 0 0, .slice none 0 0, .slice none 0 0, .slice none 0 0, .slice none 0 0, .slice none 0 0, .slice none 0 0, .slice none 0 0, .slice none 0 0, .int .i64 0] 37)) wB := by rw [hwB]; exact Below.refl _ _
   clear hx0 hx1 hx2 hx3 hx5
   have HOB := Lib.hid hob
   clear hob
   have HXB : Hid (∀ W, Below wB.heap.size wB W → W.heap[w.heap.size + 1]? = some (.cells #[.string qb, .string qi, .string ql, .int .i64 qs, .int .i64 qq, .int .i64 qh] 62 (0, 0))) := Lib.hid (fun W hW => by have hq := hW; rw [HWB0.out] at hq; exact HX.out W hq)
   have HST : Hid (∀ W, Below wB.heap.size wB W → W.cell? ⟨w.heap.size, 4, none⟩ = some (.slice (h.A 4) m (h.c 4)) ∧ W.rangeAt (w.heap.size + 1) 0 [.string qb, .string qi, .string ql, .int .i64 qs, .int .i64 qq, .int .i64 qh]) := Lib.hid (fun W hW => ⟨(HLI.out W (HOB.out.trans (hW.mono HOB.out.size))).1, range_cells (HXB.out W hW)⟩)
   have HWB := Lib.hid hwB
   clear hwB
   go_upto_region 2 with fail
   rw [← HWB.out]
   go_wp2_with fail
   refine lastW_region (S := (fun w' => w'.cell? ⟨w.heap.size, 4, none⟩ = some (.slice (h.A 4) (m) (h.c 4)) ∧ w'.rangeAt (w.heap.size + 1) 0 [.string qb, .string qi, .string ql, .int .i64 qs, .int .i64 qq, .int .i64 qh])) (n := 6) (by kernel_rfl) ?_
   have ST5 := HST.out _ (Below.refl wB.heap.size wB).drew
   refine LastW.take (i := 1) (v := .pointer (some ⟨w.heap.size, 4, none⟩)) rfl (by kernel_rfl) (by kernel_rfl) (by kernel_rfl) (by kernel_rfl) (by decide) (fun _ _ _ h => h.elim) (.inl ⟨by kernel_rfl, fun w hw => by clear hw; go_simp⟩) ST5 ?_
   (try simp only [ax])
   refine LastW.take (i := 2) (v := .slice (h.A 4) (m) (h.c 4)) rfl (by kernel_rfl) (by kernel_rfl) (by kernel_rfl) (by kernel_rfl) (by decide) (fun _ _ _ h => h.elim) (.inl ⟨by kernel_rfl, fun w hw => by have hw := hw.1; go_simp⟩) ST5 ?_
   (try simp only [ax])
   refine LastW.take (i := 3) (v := .agg #[.string qb, .string qi, .string ql, .int .i64 qs, .int .i64 qq, .int .i64 qh]) rfl (by kernel_rfl) (by kernel_rfl) (by kernel_rfl) (by kernel_rfl) (by decide) (fun _ _ _ h => h.elim) (yieldsIf_load_mid (by kernel_rfl) 62 (.tmp 3) rfl (w.heap.size + 1) 0 rfl [.string qb, .string qi, .string ql, .int .i64 qs, .int .i64 qq, .int .i64 qh] _ (fun w h => h.2) huHX rfl HSHX.out) ST5 ?_
   (try simp only [ax])
   refine LastW.one (i := 0) (by kernel_rfl) rfl (fun K hK => ?_)
   go_simp
   refine (tabQ_any _).mono ?_
   rintro e w7 ⟨rfl, hb7⟩
   have H7 := Lib.hid ((Below.refl wB.heap.size wB).drew.trans (hb7.mono (Below.refl wB.heap.size wB).drew.size))
   clear hb7
   refine hK.out _ _ (fun _ => HST.out _ H7.out) (fun _ => ?_)
   clear hK K
   (try simp only [ax])
   have H7W := Lib.hid (HOB.out.trans (H7.out.mono HOB.out.size))
   refine LastW.one (i := 4) (by kernel_rfl) rfl (fun K hK => ?_)
   go_simp
   refine (HPD.out _ (HBW.out _ H7W.out).1).mono ?_
   rintro e w8 ⟨A5, n5, p5, hl5, rfl, hown5, hb8⟩
   have H8 := Lib.hid (H7.out.trans (hb8.mono H7.out.size))
   have H8W := Lib.hid (HOB.out.trans (H8.out.mono HOB.out.size))
   have HO5 := Lib.hid hown5
   have HLE := Lib.hid hl5
   clear hb8 hown5 hl5
   refine hK.out _ _ (fun _ => HST.out _ H8.out) (fun _ => ?_)
   clear hK K
   (try simp only [ax])
   refine LastW.take (i := 5) (v := .pointer (some ⟨w.heap.size, 4, none⟩)) rfl (by kernel_rfl) (by kernel_rfl) (by kernel_rfl) (by kernel_rfl) (by decide) (fun _ _ _ h => h.elim) (.inl ⟨by kernel_rfl, fun w hw => by clear hw; go_simp⟩) (HST.out _ H8.out) ?_
   (try simp only [ax])
   refine LastW.one (i := 6) (by kernel_rfl) rfl (fun K hK => ?_)
   have c5 := (HLI.out _ H8W.out).1
   have f5 : w8.frozen? ⟨w.heap.size, 4, none⟩ = false := frozen_of_block (HH.out _ H8W.out)
   have HZ5 := Lib.hid (HZ.out _ H8W.out)
   have HH5 := Lib.hid (HH.out _ H8W.out)
   have HB5 := Lib.hid (HBW.out _ H8W.out)
   go_simp
   refine hK.out _ _ (fun h => absurd rfl h) (fun _ => ?_)
   clear hK K
   (try simp only [ax])
   refine LastW.done (by kernel_rfl) ?_ _
   refine NoPanic.normal ?_
   have H9 : Hid ((w8.setCell ⟨w.heap.size, 4, none⟩ (.slice A5 n5 p5)).heap[w.heap.size]? = some (.cells (h.set 4 A5 n5 p5).cells 37 (0, 0))) := Lib.hid (by rw [block_setCell HH5.out, h.set_cells _ _ _ 4 (by decide)])
   have HZ6 : Hid ((w8.setCell ⟨w.heap.size, 4, none⟩ (.slice A5 n5 p5)).heap[w.heap.size + 2]? = some (.cells Hs.zero 37 (0, 0))) := Lib.hid ((block_setCell_other (by omega) _).trans HZ5.out)
   have HB6 : Hid (Below w.heap.size w (w8.setCell ⟨w.heap.size, 4, none⟩ (.slice A5 n5 p5))) := Lib.hid (HB5.out.1.setCell (Nat.le_refl _) _)
   have HS4 : Hid (w.heap.size + 2 < w7.heap.size) := Lib.hid (by have := (HBW.out _ H7W.out).2; omega)
   have HO6 : Hid ((w8.setCell ⟨w.heap.size, 4, none⟩ (.slice A5 n5 p5)).ownsRow w7.heap.size 62 6 (.slice A5 n5 p5) n5 lx.flatten) := Lib.hid (own_far HO5.out (by have := HS4.out; simp; omega) (Nat.le_refl _))
   generalize w8.setCell ⟨w.heap.size, 4, none⟩ (.slice A5 n5 p5) = w6 at *
   go_wp2_with (first
    | (refine wpList_load_row rfl 37 (.tmp 2) rfl w.heap.size rfl _ _ _ _ H9.out huh rfl (HSH.out _) ?_)
    | (refine wpList_store_row rfl 37 (.tmp 4) (.tmp 14) rfl (w.heap.size + 2) (h.set 4 A5 n5 p5).cells rfl rfl _ _ HZ6.out (HSH.out _) rfl (H1C.out _) ?_)
    | fail)
   exact bodyPost_ret (results_cell_row rfl _ _ (w.heap.size + 2) _ _ _ _ rfl (setRow_heap _ _ _ _ _ _ HZ6.out) huh rfl (HSH.out _)) rfl ⟨setRow_below HB6.out (by omega) _, A5, n5, p5, HLE.out, own_rowed HO6.out HS4.out (by have := HS4.out; omega), rfl⟩
 · have hz0 : (qq == 0) = false := by simpa using h0
   have HQ0 := Lib.hid h0
   clear h0
   have HE : Hid (lx = putG ordQuant (L 4) [.string qb, .string qi, .string ql, .int .i64 qs, .int .i64 qq, .int .i64 qh]) := Lib.hid (by rw [HUP.out, if_neg HQ0.out])
   rw [← HE.out] at HPU
   obtain ⟨wB, hwB⟩ : ∃ W, W = (((w.alloc (.cells h.cells 37)).alloc (.cells #[.string qb, .string qi, .string ql, .int .i64 qs, .int .i64 qq, .int .i64 qh] 62)).alloc (.cells #[.slice none 0 0, .slice none 0 0, .slice none 0 0, .slice none 0 0, .slice none 0 0, .slice none 0 0, .slice none 0 0, .slice none 0 0, .slice none 0 0, .slice none 0 0, .slice none 0 0, .slice none 0 0, .slice none 0 0, .slice none 0 0, .int .i64 0] 37)) := ⟨_, rfl⟩
   have HWB0 := Lib.hid hwB
   have hob : Below (((w.alloc (.cells h.cells 37)).alloc (.cells #[.string qb, .string qi, .string ql, .int .i64 qs, .int .i64 qq, .int .i64 qh] 62)).alloc (.cells #[.slice none 0 0, .slice none 0 0, .slice none 0 0, .slice none 0 0, .slice none 0 0, .slice none 0 0, .slice none 0 0, .slice none 0 0, .slice none 0 0, .slice none 0 0, .slice none 0 0, .slice none 0 0, .slice none 0 0, .slice none 0 0, .int .i64 0] 37)).heap.size (((w.alloc (.cells h.cells 37)).alloc (.cells #[.string qb, .string qi, .string ql, .int .i64 qs, .int .i64 qq, .int .i64 qh] 62)).alloc (.cells #[.slice none 0 0, .slice none 0 0, .slice none 0 0, .slice none 0 0, .slice none 0 0, .slice none 0 0, .slice none 0 0, .slice none 0 0, .slice none 0 0, .slice none 0 0, .slice none 0 0, .slice none 0 0, .slice none 0 0, .slice none 0 0, .int .i64 0] 37)) wB := by rw [hwB]; exact Below.refl _ _
   clear hx0 hx1 hx2 hx3 hx5
   have HOB := Lib.hid hob
   clear hob
   have HXB : Hid (∀ W, Below wB.heap.size wB W → W.heap[w.heap.size + 1]? = some (.cells #[.string qb, .string qi, .string ql, .int .i64 qs, .int .i64 qq, .int .i64 qh] 62 (0, 0))) := Lib.hid (fun W hW => by have hq := hW; rw [HWB0.out] at hq; exact HX.out W hq)
   have HST : Hid (∀ W, Below wB.heap.size wB W → W.cell? ⟨w.heap.size, 4, none⟩ = some (.slice (h.A 4) m (h.c 4)) ∧ W.rangeAt (w.heap.size + 1) 0 [.string qb, .string qi, .string ql, .int .i64 qs, .int .i64 qq, .int .i64 qh]) := Lib.hid (fun W hW => ⟨(HLI.out W (HOB.out.trans (hW.mono HOB.out.size))).1, range_cells (HXB.out W hW)⟩)
   have HWB := Lib.hid hwB
   clear hwB
   go_upto_region 4 with fail
   rw [← HWB.out]
   go_wp2_with fail
   refine lastW_region (S := (fun w' => w'.cell? ⟨w.heap.size, 4, none⟩ = some (.slice (h.A 4) (m) (h.c 4)) ∧ w'.rangeAt (w.heap.size + 1) 0 [.string qb, .string qi, .string ql, .int .i64 qs, .int .i64 qq, .int .i64 qh])) (n := 6) (by kernel_rfl) ?_
   have ST5 := HST.out _ (Below.refl wB.heap.size wB).drew
   refine LastW.take (i := 1) (v := .pointer (some ⟨w.heap.size, 4, none⟩)) rfl (by kernel_rfl) (by kernel_rfl) (by kernel_rfl) (by kernel_rfl) (by decide) (fun _ _ _ h => h.elim) (.inl ⟨by kernel_rfl, fun w hw => by clear hw; go_simp⟩) ST5 ?_
   (try simp only [ax])
   refine LastW.take (i := 2) (v := .slice (h.A 4) (m) (h.c 4)) rfl (by kernel_rfl) (by kernel_rfl) (by kernel_rfl) (by kernel_rfl) (by decide) (fun _ _ _ h => h.elim) (.inl ⟨by kernel_rfl, fun w hw => by have hw := hw.1; go_simp⟩) ST5 ?_
   (try simp only [ax])
   refine LastW.take (i := 3) (v := .agg #[.string qb, .string qi, .string ql, .int .i64 qs, .int .i64 qq, .int .i64 qh]) rfl (by kernel_rfl) (by kernel_rfl) (by kernel_rfl) (by kernel_rfl) (by decide) (fun _ _ _ h => h.elim) (yieldsIf_load_mid (by kernel_rfl) 62 (.tmp 3) rfl (w.heap.size + 1) 0 rfl [.string qb, .string qi, .string ql, .int .i64 qs, .int .i64 qq, .int .i64 qh] _ (fun w h => h.2) huHX rfl HSHX.out) ST5 ?_
   (try simp only [ax])
   refine LastW.one (i := 0) (by kernel_rfl) rfl (fun K hK => ?_)
   go_simp
   refine (tabQ_any _).mono ?_
   rintro e w7 ⟨rfl, hb7⟩
   have H7 := Lib.hid ((Below.refl wB.heap.size wB).drew.trans (hb7.mono (Below.refl wB.heap.size wB).drew.size))
   clear hb7
   refine hK.out _ _ (fun _ => HST.out _ H7.out) (fun _ => ?_)
   clear hK K
   (try simp only [ax])
   have H7W := Lib.hid (HOB.out.trans (H7.out.mono HOB.out.size))
   refine LastW.one (i := 4) (by kernel_rfl) rfl (fun K hK => ?_)
   go_simp
   refine (HPU.out _ (HBW.out _ H7W.out).1).mono ?_
   rintro e w8 ⟨A5, n5, p5, hl5, rfl, hown5, hb8⟩
   have H8 := Lib.hid (H7.out.trans (hb8.mono H7.out.size))
   have H8W := Lib.hid (HOB.out.trans (H8.out.mono HOB.out.size))
   have HO5 := Lib.hid hown5
   have HLE := Lib.hid hl5
   clear hb8 hown5 hl5
   refine hK.out _ _ (fun _ => HST.out _ H8.out) (fun _ => ?_)
   clear hK K
   (try simp only [ax])
   refine LastW.take (i := 5) (v := .pointer (some ⟨w.heap.size, 4, none⟩)) rfl (by kernel_rfl) (by kernel_rfl) (by kernel_rfl) (by kernel_rfl) (by decide) (fun _ _ _ h => h.elim) (.inl ⟨by kernel_rfl, fun w hw => by clear hw; go_simp⟩) (HST.out _ H8.out) ?_
   (try simp only [ax])
   refine LastW.one (i := 6) (by kernel_rfl) rfl (fun K hK => ?_)
   have c5 := (HLI.out _ H8W.out).1
   have f5 : w8.frozen? ⟨w.heap.size, 4, none⟩ = false := frozen_of_block (HH.out _ H8W.out)
   have HZ5 := Lib.hid (HZ.out _ H8W.out)
   have HH5 := Lib.hid (HH.out _ H8W.out)
   have HB5 := Lib.hid (HBW.out _ H8W.out)
   go_simp
   refine hK.out _ _ (fun h => absurd rfl h) (fun _ => ?_)
   clear hK K
   (try simp only [ax])
   refine LastW.done (by kernel_rfl) ?_ _
   refine NoPanic.normal ?_
   have H9 : Hid ((w8.setCell ⟨w.heap.size, 4, none⟩ (.slice A5 n5 p5)).heap[w.heap.size]? = some (.cells (h.set 4 A5 n5 p5).cells 37 (0, 0))) := Lib.hid (by rw [block_setCell HH5.out, h.set_cells _ _ _ 4 (by decide)])
   have HZ6 : Hid ((w8.setCell ⟨w.heap.size, 4, none⟩ (.slice A5 n5 p5)).heap[w.heap.size + 2]? = some (.cells Hs.zero 37 (0, 0))) := Lib.hid ((block_setCell_other (by omega) _).trans HZ5.out)
   have HB6 : Hid (Below w.heap.size w (w8.setCell ⟨w.heap.size, 4, none⟩ (.slice A5 n5 p5))) := Lib.hid (HB5.out.1.setCell (Nat.le_refl _) _)
   have HS4 : Hid (w.heap.size + 2 < w7.heap.size) := Lib.hid (by have := (HBW.out _ H7W.out).2; omega)
   have HO6 : Hid ((w8.setCell ⟨w.heap.size, 4, none⟩ (.slice A5 n5 p5)).ownsRow w7.heap.size 62 6 (.slice A5 n5 p5) n5 lx.flatten) := Lib.hid (own_far HO5.out (by have := HS4.out; simp; omega) (Nat.le_refl _))
   generalize w8.setCell ⟨w.heap.size, 4, none⟩ (.slice A5 n5 p5) = w6 at *
   go_wp2_with (first
    | (refine wpList_load_row rfl 37 (.tmp 2) rfl w.heap.size rfl _ _ _ _ H9.out huh rfl (HSH.out _) ?_)
    | (refine wpList_store_row rfl 37 (.tmp 4) (.tmp 21) rfl (w.heap.size + 2) (h.set 4 A5 n5 p5).cells rfl rfl _ _ HZ6.out (HSH.out _) rfl (H1C.out _) ?_)
    | fail)
   exact bodyPost_ret (results_cell_row rfl _ _ (w.heap.size + 2) _ _ _ _ rfl (setRow_heap _ _ _ _ _ _ HZ6.out) huh rfl (HSH.out _)) rfl ⟨setRow_below HB6.out (by omega) _, A5, n5, p5, HLE.out, own_rowed HO6.out HS4.out (by have := HS4.out; omega), rfl⟩

end Go.Proofs.YtlkmccmbpnbgbaaGreat

namespace Go.Proofs.YtlkmccmbpnbgbaaGreat
set_option linter.unusedVariables false
open Go.RowKit
open Pl (firstG findG putG dropG It)

set_option maxRecDepth 100000 in
set_option maxHeartbeats 3200000 in
theorem chold (h : Hs) (L : Nat → List (List Value)) (kb ki kl : ByteArray) (ks : Int) (n : Int) (w : World) (hh : HT h L w) (hn4 : h.n 4 ≤ 9000) (hc1 : h.n 4 ≤ h.c 4 ∧ h.c 4 ≤ 9223372036854775807) :
 Calls Tryz.prog 98 #[.agg h.cells, .agg #[.string kb, .string ki, .string kl, .int .i64 ks], .int .i64 n] w (PutP 62 6 4 (holdE (L 4) (Ky.mk kb ki kl ks) n) (holdL (L 4) (Ky.mk kb ki kl ks) n) h w) := by
 obtain ⟨y, hy, hyb⟩ := quant_six hh (Ky.mk kb ki kl ks)
 obtain ⟨iq, hiq⟩ : ∃ z, (atQ (L 4) (Ky.mk kb ki kl ks)).isSome = z := ⟨_, rfl⟩
 obtain ⟨er, her⟩ : ∃ r, holdE (L 4) (Ky.mk kb ki kl ks) n = r := ⟨_, rfl⟩
 have HKY : Hid (iq = true → y.bin = kb ∧ y.item = ki ∧ y.lot = kl ∧ y.st = ks) := Lib.hid (fun h1 => by
  have := gotQ_ky (L := L 4) (k := (Ky.mk kb ki kl ks)) (by rw [hiq]; exact h1)
  rw [hyb] at this
  injection this with a1 a2 a3 a4
  exact ⟨a1, a2, a3, a4⟩)
 have HZY : Hid (iq = false → y.qty = 0 ∧ y.held = 0) := Lib.hid (fun h1 => by
  have h2 : gotQ (L 4) (Ky.mk kb ki kl ks) = zeroQuant := by
   unfold gotQ
   cases hc : atQ (L 4) (Ky.mk kb ki kl ks) with
   | none => rfl
   | some i => rw [hc] at hiq; rw [← hiq] at h1; cases h1
  rw [h2] at hyb
  rw [← hyb]; exact ⟨rfl, rfl⟩)
 have CQ : Hid (∀ W, Below w.heap.size w W → Calls Tryz.prog 128 #[.agg h.cells, .agg #[.string kb, .string ki, .string kl, .int .i64 ks]] W fun e w' => e = .returned (.tuple #[.agg #[.string y.bin, .string y.item, .string y.lot, .int .i64 y.st, .int .i64 y.qty, .int .i64 y.held], .bool iq]) ∧ Below W.heap.size W w') := Lib.hid (fun W hW => by have := fcq (hh.below hW) kb ki kl ks; rw [hy, hiq] at this; exact this)
 have HUP : Hid (∀ (x : Qn) W, Below w.heap.size w W → Calls Tryz.prog 131 #[.agg h.cells, .agg #[.string x.bin, .string x.item, .string x.lot, .int .i64 x.st, .int .i64 x.qty, .int .i64 x.held]] W fun e w' => Below W.heap.size W w' ∧ ∃ A n c, n = (upQ (L 4) x).length ∧ w'.ownsRow W.heap.size 62 6 (.slice A n c) n (upQ (L 4) x).flatten ∧ e = .returned (.agg (h.set 4 A n c).cells)) := Lib.hid (fun x W hW => cwith h L _ _ _ _ _ _ W (hh.below hW) hn4 hc1)
 obtain ⟨r1, hr1⟩ : ∃ r, (decide ((-1000000000 : Int) ≤ n) && decide (n ≤ 1000000000)) = r := ⟨_, rfl⟩
 have CR : Hid (∀ W, Calls Tryz.prog 129 #[.int .i64 n, .int .i64 (-1000000000), .int .i64 1000000000] W fun e w' => e = .returned (.bool r1) ∧ w' = W) := Lib.hid (fun W => by have := cinr n (-1000000000) 1000000000 W; rwa [hr1] at this)
 have HRR : Hid (r1 = false ↔ (n < -1000000000 ∨ 1000000000 < n)) := Lib.hid (by rw [← hr1, Bool.and_eq_false_iff, decide_eq_false_iff_not, decide_eq_false_iff_not]; constructor <;> intro h <;> omega)
 clear hr1
 have HA : Hid (er = if iq = false then 12 else if r1 = false then 10 else if wrap64 (y.qty - y.held) < n ∨ wrap64 (y.held + n) < 0 then 28 else 0) := Lib.hid (by rw [← her]; unfold holdE; rw [hiq, hyb]; simp only [HRR.out])
 have HLX : Hid (iq = true → holdL (L 4) (Ky.mk kb ki kl ks) n = upQ (L 4) ⟨y.bin, y.item, y.lot, y.st, y.qty, wrap64 (y.held + n)⟩) := Lib.hid (fun h1 => by obtain ⟨a1, a2, a3, a4⟩ := HKY.out h1; unfold holdL; rw [hyb, a1, a2, a3, a4])
 obtain ⟨lx, hlx⟩ : ∃ l, holdL (L 4) (Ky.mk kb ki kl ks) n = l := ⟨_, rfl⟩
 rw [hlx] at HLX ⊢
 rw [her]
 clear her hiq hy hyb hlx HKY HZY HRR
 obtain ⟨W0, hW0⟩ : ∃ W0, W0 = (((w.alloc (.cells h.cells 37)).alloc (.cells #[.string kb, .string ki, .string kl, .int .i64 ks] 44)).alloc (.cells #[.slice none 0 0, .slice none 0 0, .slice none 0 0, .slice none 0 0, .slice none 0 0, .slice none 0 0, .slice none 0 0, .slice none 0 0, .slice none 0 0, .slice none 0 0, .slice none 0 0, .slice none 0 0, .slice none 0 0, .slice none 0 0, .int .i64 0] 37)) := ⟨_, rfl⟩
 have hb0 : Below w.heap.size w W0 := by rw [hW0]; exact (((Below.refl _ _).alloc (Nat.le_refl _) _).alloc (by simp <;> omega) _).alloc (by simp <;> omega) _
 have hs0 : W0.heap.size = w.heap.size + 3 := by rw [hW0]; simp
 have HH : Hid (∀ W, Below W0.heap.size W0 W → W.heap[w.heap.size]? = some (.cells h.cells 37 (0, 0))) := Lib.hid (fun W hW => (hW.block _ (by omega)).trans (by
  rw [hW0]
  have hq := heap_alloc_new w (.cells h.cells 37)
  exact (Below.heap_alloc _ _ _ (by simp <;> omega)).trans ((Below.heap_alloc _ _ _ (by simp <;> omega)).trans ((by simpa using hq)))))
 have HK : Hid (∀ W, Below W0.heap.size W0 W → W.heap[w.heap.size + 1]? = some (.cells #[.string kb, .string ki, .string kl, .int .i64 ks] 44 (0, 0))) := Lib.hid (fun W hW => (hW.block _ (by omega)).trans (by
  rw [hW0]
  have hq := heap_alloc_new (w.alloc (.cells h.cells 37)) (.cells #[.string kb, .string ki, .string kl, .int .i64 ks] 44)
  exact (Below.heap_alloc _ _ _ (by simp <;> omega)).trans ((by simpa using hq))))
 have HZ : Hid (∀ W, Below W0.heap.size W0 W → W.heap[w.heap.size + 2]? = some (.cells Hs.zero 37 (0, 0))) := Lib.hid (fun W hW => (hW.block _ (by omega)).trans (by
  rw [hW0]
  have hq := heap_alloc_new ((w.alloc (.cells h.cells 37)).alloc (.cells #[.string kb, .string ki, .string kl, .int .i64 ks] 44)) (.cells #[.slice none 0 0, .slice none 0 0, .slice none 0 0, .slice none 0 0, .slice none 0 0, .slice none 0 0, .slice none 0 0, .slice none 0 0, .slice none 0 0, .slice none 0 0, .slice none 0 0, .slice none 0 0, .slice none 0 0, .slice none 0 0, .int .i64 0] 37)
  exact (by simpa [Hs.zero] using hq)))
 have HBW : Hid (∀ W, Below W0.heap.size W0 W → Below w.heap.size w W ∧ w.heap.size + 3 ≤ W.heap.size) := Lib.hid (fun W hW => ⟨hb0.trans (hW.mono (by omega)), by have := hW.size; omega⟩)
 have huh := Tryz.underlying37
 have HSH : Hid (∀ a : Hs, (Tryz.prog.info? 37).map (·.size) = some a.cells.size) := Lib.hid (fun a => by kernel_rfl)
 have HSQ : Hid ((Tryz.prog.info? 37).map (·.size) = some Hs.zero.size) := Lib.hid (by kernel_rfl)
 have H1C : Hid (∀ a : Hs, a.cells.all (·.oneCell') = true) := Lib.hid (fun a => by simp [Hs.cells, Value.oneCell'])
 have H1Q : Hid (Hs.zero.all (·.oneCell') = true) := Lib.hid (by simp [Hs.zero, Value.oneCell'])
 have huHK := Tryz.underlying44
 have HSHK : Hid ((Tryz.prog.info? 44).map (·.size) = some 4) := Lib.hid (by kernel_rfl)
 have HCHK : Hid (∀ W, Below W0.heap.size W0 W → W.cell? ⟨w.heap.size + 1, 0, none⟩ = some (.string kb) ∧ W.cell? ⟨w.heap.size + 1, 1, none⟩ = some (.string ki) ∧ W.cell? ⟨w.heap.size + 1, 2, none⟩ = some (.string kl) ∧ W.cell? ⟨w.heap.size + 1, 3, none⟩ = some (.int .i64 ks) ∧ w.heap.size + 1 < W.heap.size) := Lib.hid (fun W hW => ⟨by rw [cell_of_block (HK.out W hW)]; rfl, by rw [cell_of_block (HK.out W hW)]; rfl, by rw [cell_of_block (HK.out W hW)]; rfl, by rw [cell_of_block (HK.out W hW)]; rfl, by have := hW.size; omega⟩)
 have H0 := Lib.hid (Below.refl W0.heap.size W0)
 clear hb0 hs0 hh hn4 hc1
 subst hW0
 go_enter Tryz.func98, Tryz.ntmps98
 go_wp2_with (first
  | (refine wpList_load_row rfl 37 (.tmp 3) rfl w.heap.size rfl _ _ _ _ (HH.out _ H0.out) huh rfl (HSH.out _) ?_)
  | (refine wpList_load_row rfl 44 (.tmp 4) rfl (w.heap.size + 1) rfl _ _ _ _ (HK.out _ H0.out) huHK rfl HSHK.out ?_)
  | fail)
 refine (CQ.out _ (HBW.out _ H0.out).1).mono ?_
 rintro e w1 ⟨rfl, hb1⟩
 have H1 := Lib.hid (H0.out.trans (hb1.mono H0.out.size))
 clear hb1
 have H2 := Lib.hid (H1.out.alloc H1.out.size (.cells #[.string y.bin, .string y.item, .string y.lot, .int .i64 y.st, .int .i64 y.qty, .int .i64 y.held] 62))
 cases iq with
 | false =>
  have HE : Hid (er = 12) := Lib.hid (by rw [HA.out]; rfl)
  go_wp2_with (first
   | (refine wpList_store_row rfl 37 (.tmp 6) (.tmp 18) rfl (w.heap.size + 2) Hs.zero rfl rfl _ _ (HZ.out _ H2.out) HSQ.out rfl H1Q.out ?_)
   | fail)
  exact bodyPost_ret (results_row_tmp rfl _ _ (w.heap.size + 2) _ _ _ _ rfl (setRow_heap _ _ _ _ _ _ (HZ.out _ H2.out)) huh rfl HSQ.out) rfl ⟨setRow_below (HBW.out _ H2.out).1 (by omega) _, .inl ⟨by rw [HE.out]; decide, by rw [HE.out]; rfl⟩⟩
 | true =>
  have HA1 : Hid (er = if r1 = false then 10 else if wrap64 (y.qty - y.held) < n ∨ wrap64 (y.held + n) < 0 then 28 else 0) := Lib.hid (by rw [HA.out]; rfl)
  have HLE0 := Lib.hid (HLX.out rfl)
  go_wp2_with fail
  refine (CR.out _).mono ?_
  rintro e w2 ⟨rfl, rfl⟩
  cases r1 with
  | false =>
   have HE : Hid (er = 10) := Lib.hid (by rw [HA1.out]; rfl)
   go_wp2_with (first
    | (refine wpList_store_row rfl 37 (.tmp 6) (.tmp 22) rfl (w.heap.size + 2) Hs.zero rfl rfl _ _ (HZ.out _ H2.out) HSQ.out rfl H1Q.out ?_)
    | fail)
   exact bodyPost_ret (results_row_tmp rfl _ _ (w.heap.size + 2) _ _ _ _ rfl (setRow_heap _ _ _ _ _ _ (HZ.out _ H2.out)) huh rfl HSQ.out) rfl ⟨setRow_below (HBW.out _ H2.out).1 (by omega) _, .inl ⟨by rw [HE.out]; decide, by rw [HE.out]; rfl⟩⟩
  | true =>
   have HA2 : Hid (er = if wrap64 (y.qty - y.held) < n ∨ wrap64 (y.held + n) < 0 then 28 else 0) := Lib.hid (by rw [HA1.out]; rfl)
   go_wp2_with fail
   refine (cfree y.bin y.item y.lot y.st y.qty y.held _).mono ?_
   rintro e w3 ⟨rfl, rfl⟩
   have H3 := Lib.hid (H2.out.alloc H2.out.size (.cells #[.string y.bin, .string y.item, .string y.lot, .int .i64 y.st, .int .i64 y.qty, .int .i64 y.held] 62))
   by_cases q3 : wrap64 (y.qty - y.held) < n
   ·
    have HE : Hid (er = 28) := Lib.hid (by rw [HA2.out, if_pos (.inl q3)])
    go_wp2_with (first
     | (refine wpList_store_row rfl 37 (.tmp 6) (.tmp 34) rfl (w.heap.size + 2) Hs.zero rfl rfl _ _ (HZ.out _ H3.out) HSQ.out rfl H1Q.out ?_)
     | fail)
    exact bodyPost_ret (results_row_tmp rfl _ _ (w.heap.size + 2) _ _ _ _ rfl (setRow_heap _ _ _ _ _ _ (HZ.out _ H3.out)) huh rfl HSQ.out) rfl ⟨setRow_below (HBW.out _ H3.out).1 (by omega) _, .inl ⟨by rw [HE.out]; decide, by rw [HE.out]; rfl⟩⟩
   · by_cases q4 : wrap64 (y.held + n) < 0
     ·
      have HE : Hid (er = 28) := Lib.hid (by rw [HA2.out, if_pos (.inr q4)])
      go_wp2_with (first
       | (refine wpList_store_row rfl 37 (.tmp 6) (.tmp 34) rfl (w.heap.size + 2) Hs.zero rfl rfl _ _ (HZ.out _ H3.out) HSQ.out rfl H1Q.out ?_)
       | fail)
      exact bodyPost_ret (results_row_tmp rfl _ _ (w.heap.size + 2) _ _ _ _ rfl (setRow_heap _ _ _ _ _ _ (HZ.out _ H3.out)) huh rfl HSQ.out) rfl ⟨setRow_below (HBW.out _ H3.out).1 (by omega) _, .inl ⟨by rw [HE.out]; decide, by rw [HE.out]; rfl⟩⟩
     · have HE : Hid (er = 0) := Lib.hid (by rw [HA2.out, if_neg (by omega)])
       have H4 := Lib.hid (H1.out.alloc H1.out.size (.cells #[.string y.bin, .string y.item, .string y.lot, .int .i64 y.st, .int .i64 y.qty, .int .i64 (wrap64 (y.held + n))] 62))
       have H5 := Lib.hid (H4.out.alloc H4.out.size (.cells #[.string y.bin, .string y.item, .string y.lot, .int .i64 y.st, .int .i64 y.qty, .int .i64 y.held] 62))
       go_wp2_with (first
        | (refine wpList_load_row rfl 37 (.tmp 3) rfl w.heap.size rfl _ _ _ _ (HH.out _ H5.out) huh rfl (HSH.out _) ?_)
        | fail)
       have HPU := Lib.hid (fun W hW => HUP.out ⟨y.bin, y.item, y.lot, y.st, y.qty, wrap64 (y.held + n)⟩ W hW)
       rw [← HLE0.out] at HPU
       refine (HPU.out _ (HBW.out _ H5.out).1).mono ?_
       rintro e w4 ⟨hb9, A, n, cc, hl, hown, rfl⟩
       have H9 := Lib.hid (H5.out.trans (hb9.mono H5.out.size))
       have HO9 := Lib.hid hown
       have HLE := Lib.hid hl
       have HSZ9 := Lib.hid (HBW.out _ H5.out).2
       clear hb9 hown hl
       go_wp2_with (first
        | (refine wpList_store_row rfl 37 (.tmp 6) (.tmp 42) rfl (w.heap.size + 2) (h.set 4 A n cc).cells rfl rfl _ _ (HZ.out _ H9.out) (HSH.out _) rfl (H1C.out _) ?_)
        | fail)
       exact bodyPost_ret (results_row_tmp rfl _ _ (w.heap.size + 2) _ _ _ _ rfl (setRow_heap _ _ _ _ _ _ (HZ.out _ H9.out)) huh rfl (HSH.out _)) rfl ⟨setRow_below (HBW.out _ H9.out).1 (by omega) _, .inr ⟨HE.out, A, n, cc, HLE.out, own_rowed HO9.out (by have := HSZ9.out; omega) (by have := HSZ9.out; omega), rfl⟩⟩

end Go.Proofs.YtlkmccmbpnbgbaaGreat
