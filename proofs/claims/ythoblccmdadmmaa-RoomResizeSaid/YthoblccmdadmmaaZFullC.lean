/-
  CONTRACTS of the code's overfull, contains, overfills. (By wip/tools/gen_zcode.py.)
-/
import Derived.Test.YthoblccmdadmmaaZFitC
import Derived.Test.YthoblccmdadmmaaCItemRTab
import Derived.Test.YthoblccmdadmmaaCBinRTab
import Derived.Test.YthoblccmdadmmaaHas
import Derived.Test.YthoblccmdadmmaaZFacts
import Derived.Deep.CutRange
namespace Go.Proofs.Ythoblccmdadmmaa
set_option linter.unusedVariables false
open Go.RowKit
open Pl (firstG findG putG It)

theorem row0c {w : World} {b : Nat} {cs : Array Value} {t : TypeId} (h : w.heap[b]? = some (.cells cs t (0, 0))) : w.rangeAt b 0 cs.toList := fun i v hv => by rw [cell_of_block h, Nat.zero_add]; simpa using hv
theorem crange_any (n hi : Int) (w : World) : Calls Try.prog 49 #[.int .i64 n, .int .i64 hi] w fun e w' => e = .returned (.bool (decide (0 ≤ n) && decide (n ≤ hi))) ∧ w' = w := by
  by_cases h1 : 0 ≤ n
  · by_cases h2 : n ≤ hi
    · go_enter Try.func49, Try.ntmps49
      go_wp2
      go_ret
      simp [h2]; omega
    · go_enter Try.func49, Try.ntmps49
      go_wp2
      go_ret
      simp; omega
  · go_enter Try.func49, Try.ntmps49
    go_wp2
    go_ret
    simp
    intro h; omega

set_option maxRecDepth 100000 in
set_option maxHeartbeats 3200000 in
theorem cfull_any (h : Hs) (L : Nat → List (List Value)) (xc xz : ByteArray) (kd ai pl vo we : Int) (fz : Bool) (w : World) (hh : HT h L w) :
    Calls Try.prog 47 #[.agg h.cells, .agg #[.string xc, .string xz, .int .i64 kd, .int .i64 ai, .int .i64 pl, .int .i64 vo, .int .i64 we, .bool fz]] w fun e w' => e = .returned (.bool (fullB (L 0) (L 4) (Bn.mk xc xz kd ai pl vo we fz))) ∧ Below w.heap.size w w' := by
  obtain ⟨lv, hlv⟩ : ∃ z, (loadP (L 0) (L 4) xc).1 = z := ⟨_, rfl⟩
  obtain ⟨lw, hlw⟩ : ∃ z, (loadP (L 0) (L 4) xc).2 = z := ⟨_, rfl⟩
  obtain ⟨r, hr⟩ : ∃ r, fullB (L 0) (L 4) (Bn.mk xc xz kd ai pl vo we fz) = r := ⟨_, rfl⟩
  have HA : Hid (r = (decide (vo < lv) || decide (we < lw))) := Lib.hid (by rw [← hr]; unfold fullB; simp only []; rw [hlv, hlw])
  have CL : Hid (∀ W, Below w.heap.size w W → Calls Try.prog 14 #[.agg h.cells, .string xc] W fun e w' => e = .returned (.tuple #[.int .i64 lv, .int .i64 lw]) ∧ Below W.heap.size W w') := Lib.hid (fun W hW => by have := cload_any h L xc W (hh.below hW); rwa [hlv, hlw] at this)
  have CH := Lib.hid (cholds_any xc xz kd ai pl vo we fz lv lw)
  rw [hr]
  clear hr hlv hlw
  obtain ⟨W0, hW0⟩ : ∃ W0, W0 = ((w.alloc (.cells h.cells 37)).alloc (.cells #[.string xc, .string xz, .int .i64 kd, .int .i64 ai, .int .i64 pl, .int .i64 vo, .int .i64 we, .bool fz] 57)) := ⟨_, rfl⟩
  have hb0 : Below w.heap.size w W0 := by rw [hW0]; exact ((Below.refl _ _).alloc (Nat.le_refl _) _).alloc (by simp <;> omega) _
  have hs0 : W0.heap.size = w.heap.size + 2 := by rw [hW0]; simp
  have HH : Hid (∀ W, Below W0.heap.size W0 W → W.heap[w.heap.size]? = some (.cells h.cells 37 (0, 0))) := Lib.hid (fun W hW => (hW.block _ (by omega)).trans (by
    rw [hW0]
    have hq := heap_alloc_new w (.cells h.cells 37)
    exact (Below.heap_alloc _ _ _ (by simp <;> omega)).trans ((by simpa using hq))))
  have HX : Hid (∀ W, Below W0.heap.size W0 W → W.heap[w.heap.size + 1]? = some (.cells #[.string xc, .string xz, .int .i64 kd, .int .i64 ai, .int .i64 pl, .int .i64 vo, .int .i64 we, .bool fz] 57 (0, 0))) := Lib.hid (fun W hW => (hW.block _ (by omega)).trans (by
    rw [hW0]
    have hq := heap_alloc_new (w.alloc (.cells h.cells 37)) (.cells #[.string xc, .string xz, .int .i64 kd, .int .i64 ai, .int .i64 pl, .int .i64 vo, .int .i64 we, .bool fz] 57)
    exact (by simpa using hq)))
  have HBW : Hid (∀ W, Below W0.heap.size W0 W → Below w.heap.size w W ∧ w.heap.size + 2 ≤ W.heap.size) := Lib.hid (fun W hW => ⟨hb0.trans (hW.mono (by omega)), by have := hW.size; omega⟩)
  have huh := Try.underlying37
  have HSH : Hid (∀ a : Hs, (Try.prog.info? 37).map (·.size) = some a.cells.size) := Lib.hid (fun a => by kernel_rfl)
  have huHX := Try.underlying57
  have HSHX : Hid ((Try.prog.info? 57).map (·.size) = some 8) := Lib.hid (by kernel_rfl)
  have HCHX : Hid (∀ W, Below W0.heap.size W0 W → W.cell? ⟨w.heap.size + 1, 0, none⟩ = some (.string xc) ∧ W.cell? ⟨w.heap.size + 1, 1, none⟩ = some (.string xz) ∧ W.cell? ⟨w.heap.size + 1, 2, none⟩ = some (.int .i64 kd) ∧ W.cell? ⟨w.heap.size + 1, 3, none⟩ = some (.int .i64 ai) ∧ W.cell? ⟨w.heap.size + 1, 4, none⟩ = some (.int .i64 pl) ∧ W.cell? ⟨w.heap.size + 1, 5, none⟩ = some (.int .i64 vo) ∧ W.cell? ⟨w.heap.size + 1, 6, none⟩ = some (.int .i64 we) ∧ W.cell? ⟨w.heap.size + 1, 7, none⟩ = some (.bool fz) ∧ w.heap.size + 1 < W.heap.size) := Lib.hid (fun W hW => ⟨by rw [cell_of_block (HX.out W hW)]; rfl, by rw [cell_of_block (HX.out W hW)]; rfl, by rw [cell_of_block (HX.out W hW)]; rfl, by rw [cell_of_block (HX.out W hW)]; rfl, by rw [cell_of_block (HX.out W hW)]; rfl, by rw [cell_of_block (HX.out W hW)]; rfl, by rw [cell_of_block (HX.out W hW)]; rfl, by rw [cell_of_block (HX.out W hW)]; rfl, by have := hW.size; omega⟩)
  have hc0 := HCHX.out _ (Below.refl _ _)
  obtain ⟨hx0, hx1, hx2, hx3, hx4, hx5, hx6, hx7, hlthx⟩ := hc0
  have H0 := Lib.hid (Below.refl W0.heap.size W0)
  clear hb0 hs0 hh
  subst hW0
  go_enter Try.func47, Try.ntmps47
  go_wp2_with (first
    | (refine wpList_load_row rfl 37 (.tmp 2) rfl w.heap.size rfl _ _ _ _ (HH.out _ H0.out) huh rfl (HSH.out _) ?_)
    | fail)
  refine (CL.out _ (HBW.out _ H0.out).1).mono ?_
  rintro e w1 ⟨rfl, hb1⟩
  have H1 := Lib.hid (H0.out.trans (hb1.mono H0.out.size))
  clear hb1
  clear hx0 hx1 hx2 hx3 hx4 hx5 hx6 hx7 hlthx
  go_wp2_with (first
    | (refine wpList_load_row rfl 57 (.tmp 3) rfl (w.heap.size + 1) rfl _ _ _ _ (HX.out _ H1.out) huHX rfl HSHX.out ?_)
    | fail)
  refine (CH.out _).mono ?_
  rintro e w2 ⟨rfl, hb2⟩
  have H2 := Lib.hid (H1.out.trans (hb2.mono H1.out.size))
  clear hb2
  by_cases q1 : vo < lv
  · have HE : Hid (r = true) := Lib.hid (by rw [HA.out, decide_eq_true q1]; rfl)
    rw [show decide (lv ≤ vo) = false from decide_eq_false (by omega)]
    go_wp2_with fail
    go_ret
    exact ⟨by rw [HE.out]; rfl, (HBW.out _ H2.out).1⟩
  · by_cases q2 : we < lw
    · have HE : Hid (r = true) := Lib.hid (by rw [HA.out, decide_eq_true q2, Bool.or_true])
      rw [show decide (lw ≤ we) = false from decide_eq_false (by omega), Bool.and_false]
      go_wp2_with fail
      go_ret
      exact ⟨by rw [HE.out]; rfl, (HBW.out _ H2.out).1⟩
    · have HE : Hid (r = false) := Lib.hid (by rw [HA.out, decide_eq_false q1, decide_eq_false q2]; rfl)
      rw [show decide (lv ≤ vo) = true from decide_eq_true (by omega), show decide (lw ≤ we) = true from decide_eq_true (by omega)]
      go_wp2_with fail
      go_ret
      exact ⟨by rw [HE.out]; rfl, (HBW.out _ H2.out).1⟩

theorem ccont1_any (bs bi : Nat) (s t qb qi ql : ByteArray) (qs qq qh : Int) (w : World) (h0 : w.cell? ⟨bs, 0, none⟩ = some (.string s)) (l0 : bs < w.heap.size) (h1 : w.cell? ⟨bi, 0, none⟩ = some (.string t)) (l1 : bi < w.heap.size) :
    Calls Try.prog 99 #[.agg #[.string qb, .string qi, .string ql, .int .i64 qs, .int .i64 qq, .int .i64 qh], .pointer (some ⟨bs, 0, none⟩), .pointer (some ⟨bi, 0, none⟩)] w fun e w' => e = .returned (.bool (Pl.eqv qb s && Pl.eqv qi t)) ∧ Below w.heap.size w w' := by
  have HB := Lib.hid ((Below.refl _ w).alloc (Nat.le_refl _) (.cells #[.string qb, .string qi, .string ql, .int .i64 qs, .int .i64 qq, .int .i64 qh] 61))
  cases he : Pl.eqv qb s with
  | false =>
    have he' : (qb.toList == s.toList) = false := he
    clear he
    go_enter Try.func99, Try.ntmps99
    go_wp2_with fail
    go_ret
    exact ⟨rfl, HB.out⟩
  | true =>
    have he' : (qb.toList == s.toList) = true := he
    clear he
    cases hf : Pl.eqv qi t with
    | false =>
      have hf' : (qi.toList == t.toList) = false := hf
      clear hf
      go_enter Try.func99, Try.ntmps99
      go_wp2_with fail
      go_ret
      exact ⟨rfl, HB.out⟩
    | true =>
      have hf' : (qi.toList == t.toList) = true := hf
      clear hf
      go_enter Try.func99, Try.ntmps99
      go_wp2_with fail
      go_ret
      exact ⟨rfl, HB.out⟩

set_option maxRecDepth 100000 in
set_option maxHeartbeats 3200000 in
theorem ccontains_any (h : Hs) (L : Nat → List (List Value)) (s t : ByteArray) (w : World) (hh : HT h L w) :
    Calls Try.prog 82 #[.agg h.cells, .string s, .string t] w fun e w' => e = .returned (.bool (standsQ (L 4) s t)) ∧ Below w.heap.size w w' := by
  have hmf : ∀ (fn : Fn) (first cap : Array Value) (w : World), (Instr.makeFunc fn first cap).run Try.prog w = .ok (.func fn first cap) w := fun _ _ _ _ => rfl
  have hn9 := (hh 4 (by decide)).2.1
  obtain ⟨m, hmm⟩ : ∃ m, h.n 4 = m := ⟨_, rfl⟩
  rw [hmm] at hn9
  have HMM := Lib.hid hmm
  clear hmm
  obtain ⟨W0, hW0⟩ : ∃ W0, W0 = (((w.alloc (.cells h.cells 37)).alloc (.cells #[.string s] 9)).alloc (.cells #[.string t] 9)) := ⟨_, rfl⟩
  have hb0 : Below w.heap.size w W0 := by rw [hW0]; exact (((Below.refl _ _).alloc (Nat.le_refl _) _).alloc (by simp <;> omega) _).alloc (by simp <;> omega) _
  have hs0 : W0.heap.size = w.heap.size + 3 := by rw [hW0]; simp
  have HH : Hid (∀ W, Below W0.heap.size W0 W → W.heap[w.heap.size]? = some (.cells h.cells 37 (0, 0))) := Lib.hid (fun W hW => (hW.block _ (by omega)).trans (by
    rw [hW0]
    have hq := heap_alloc_new w (.cells h.cells 37)
    exact (Below.heap_alloc _ _ _ (by simp <;> omega)).trans ((Below.heap_alloc _ _ _ (by simp <;> omega)).trans ((by simpa using hq)))))
  have HA1 : Hid (∀ W, Below W0.heap.size W0 W → W.heap[w.heap.size + 1]? = some (.cells #[.string s] 9 (0, 0))) := Lib.hid (fun W hW => (hW.block _ (by omega)).trans (by
    rw [hW0]
    have hq := heap_alloc_new (w.alloc (.cells h.cells 37)) (.cells #[.string s] 9)
    exact (Below.heap_alloc _ _ _ (by simp <;> omega)).trans ((by simpa using hq))))
  have HA2 : Hid (∀ W, Below W0.heap.size W0 W → W.heap[w.heap.size + 2]? = some (.cells #[.string t] 9 (0, 0))) := Lib.hid (fun W hW => (hW.block _ (by omega)).trans (by
    rw [hW0]
    have hq := heap_alloc_new ((w.alloc (.cells h.cells 37)).alloc (.cells #[.string s] 9)) (.cells #[.string t] 9)
    exact (by simpa using hq)))
  have HBW : Hid (∀ W, Below W0.heap.size W0 W → Below w.heap.size w W ∧ w.heap.size + 3 ≤ W.heap.size) := Lib.hid (fun W hW => ⟨hb0.trans (hW.mono (by omega)), by have := hW.size; omega⟩)
  have huh := Try.underlying37
  have HSH : Hid (∀ a : Hs, (Try.prog.info? 37).map (·.size) = some a.cells.size) := Lib.hid (fun a => by kernel_rfl)
  have huHA1 := Try.underlying9
  have HSHA1 : Hid ((Try.prog.info? 9).map (·.size) = some 1) := Lib.hid (by kernel_rfl)
  have HCHA1 : Hid (∀ W, Below W0.heap.size W0 W → W.cell? ⟨w.heap.size + 1, 0, none⟩ = some (.string s) ∧ w.heap.size + 1 < W.heap.size) := Lib.hid (fun W hW => ⟨by rw [cell_of_block (HA1.out W hW)]; rfl, by have := hW.size; omega⟩)
  have huHA2 := Try.underlying9
  have HSHA2 : Hid ((Try.prog.info? 9).map (·.size) = some 1) := Lib.hid (by kernel_rfl)
  have HCHA2 : Hid (∀ W, Below W0.heap.size W0 W → W.cell? ⟨w.heap.size + 2, 0, none⟩ = some (.string t) ∧ w.heap.size + 2 < W.heap.size) := Lib.hid (fun W hW => ⟨by rw [cell_of_block (HA2.out W hW)]; rfl, by have := hW.size; omega⟩)
  have HL4 : Hid (∀ W, Below W0.heap.size W0 W → W.cell? ⟨w.heap.size, 4, none⟩ = some (.slice (h.A 4) m (h.c 4)) ∧ w.heap.size < W.heap.size) := Lib.hid (fun W hW => ⟨by rw [cell_of_block (HH.out W hW), ← HMM.out]; rfl, by have := hW.size; omega⟩)
  have HBW0 : ∀ W, Below W0.heap.size W0 W → Below w.heap.size w W := fun W hW => (HBW.out W hW).1
  have HAS : Hid (∀ W, Below W0.heap.size W0 W → Calls Try.prog 98 #[.slice (h.A 4) m (h.c 4), .func (.func 99) #[] #[.pointer (some ⟨w.heap.size + 1, 0, none⟩), .pointer (some ⟨w.heap.size + 2, 0, none⟩)]] W fun e w' => e = .returned (.bool (standsQ (L 4) s t)) ∧ Below W.heap.size W w') := Lib.hid (fun W hW => by
    refine hasQuant (h.A 4) m (h.c 4) 99 #[.pointer (some ⟨w.heap.size + 1, 0, none⟩), .pointer (some ⟨w.heap.size + 2, 0, none⟩)] (fun e => Pl.eqv (qnOf e).bin s && Pl.eqv (qnOf e).item t) (L 4) W (by rw [← HMM.out]; exact (hh 4 (by decide)).1) hn9 (hh 4 (by decide)).2.2.1 (((hh.below (HBW0 W hW)) 4 (by decide)).2.2.2) ⟨enters_of Try.func99 (by kernel_rfl) rfl, fun V hV e he => ?_⟩
    have hB := hW.trans (hV.mono hW.size)
    have hc := qn_cells he
    obtain ⟨q, hq⟩ : ∃ q, qnOf e = q := ⟨_, rfl⟩
    show Calls _ _ _ _ (fun r W' => r = .returned (.bool (Pl.eqv (qnOf e).bin s && Pl.eqv (qnOf e).item t)) ∧ Below V.heap.size V W')
    rw [hq] at hc ⊢
    subst hc
    exact ccont1_any _ _ s t q.bin q.item q.lot q.st q.qty q.held V (HCHA1.out V hB).1 (HCHA1.out V hB).2 (HCHA2.out V hB).1 (HCHA2.out V hB).2)
  have H0 := Lib.hid (Below.refl W0.heap.size W0)
  clear hb0 hs0 hh
  subst hW0
  go_enter Try.func82, Try.ntmps82
  obtain ⟨d4, dlt⟩ := HL4.out _ H0.out
  go_wp2_with fail
  refine (HAS.out _ H0.out).mono ?_
  rintro e w1 ⟨rfl, hb1⟩
  have H1 := Lib.hid (H0.out.trans (hb1.mono H0.out.size))
  clear hb1 d4 dlt
  go_wp2_with fail
  go_ret
  exact ⟨rfl, (HBW.out _ H1.out).1⟩

set_option maxRecDepth 100000 in
set_option maxHeartbeats 3200000 in
theorem cover1_any (bh bt : Nat) (h : Hs) (L : Nat → List (List Value)) (t : ByteArray) (xc xz : ByteArray) (kd ai pl vo we : Int) (fz : Bool) (w : World) (hh : HT h L w) (h0 : w.heap[bh]? = some (.cells h.cells 37 (0, 0))) (h1 : w.cell? ⟨bt, 0, none⟩ = some (.string t)) (l1 : bt < w.heap.size) :
    Calls Try.prog 81 #[.agg #[.string xc, .string xz, .int .i64 kd, .int .i64 ai, .int .i64 pl, .int .i64 vo, .int .i64 we, .bool fz], .pointer (some ⟨bh, 0, none⟩), .pointer (some ⟨bt, 0, none⟩)] w fun e w' => e = .returned (.bool (standsQ (L 4) xc t && fullB (L 0) (L 4) (Bn.mk xc xz kd ai pl vo we fz))) ∧ Below w.heap.size w w' := by
  obtain ⟨st, hst⟩ : ∃ z, standsQ (L 4) xc t = z := ⟨_, rfl⟩
  obtain ⟨fb, hfb⟩ : ∃ z, fullB (L 0) (L 4) (Bn.mk xc xz kd ai pl vo we fz) = z := ⟨_, rfl⟩
  have CS : Hid (∀ W, Below w.heap.size w W → Calls Try.prog 82 #[.agg h.cells, .string xc, .string t] W fun e w' => e = .returned (.bool st) ∧ Below W.heap.size W w') := Lib.hid (fun W hW => by rw [← hst]; exact ccontains_any h L xc t W (hh.below hW))
  have CF : Hid (∀ W, Below w.heap.size w W → Calls Try.prog 47 #[.agg h.cells, .agg #[.string xc, .string xz, .int .i64 kd, .int .i64 ai, .int .i64 pl, .int .i64 vo, .int .i64 we, .bool fz]] W fun e w' => e = .returned (.bool fb) ∧ Below W.heap.size W w') := Lib.hid (fun W hW => by rw [← hfb]; exact cfull_any h L xc xz kd ai pl vo we fz W (hh.below hW))
  have HK0 : Hid (∀ W, Below w.heap.size w W → W.heap[bh]? = some (.cells h.cells 37 (0, 0)) ∧ W.cell? ⟨bt, 0, none⟩ = some (.string t) ∧ bt < W.heap.size) := Lib.hid (fun W hW => ⟨(hW.block _ (lt_of_block h0)).trans h0, (hW.cell (p := ⟨bt, 0, none⟩) l1).trans h1, Nat.lt_of_lt_of_le l1 hW.size⟩)
  rw [hst, hfb]
  clear hst hfb h0 h1 l1
  obtain ⟨W0, hW0⟩ : ∃ W0, W0 = (w.alloc (.cells #[.string xc, .string xz, .int .i64 kd, .int .i64 ai, .int .i64 pl, .int .i64 vo, .int .i64 we, .bool fz] 57)) := ⟨_, rfl⟩
  have hb0 : Below w.heap.size w W0 := by rw [hW0]; exact (Below.refl _ _).alloc (Nat.le_refl _) _
  have hs0 : W0.heap.size = w.heap.size + 1 := by rw [hW0]; simp
  have HX : Hid (∀ W, Below W0.heap.size W0 W → W.heap[w.heap.size]? = some (.cells #[.string xc, .string xz, .int .i64 kd, .int .i64 ai, .int .i64 pl, .int .i64 vo, .int .i64 we, .bool fz] 57 (0, 0))) := Lib.hid (fun W hW => (hW.block _ (by omega)).trans (by
    rw [hW0]
    have hq := heap_alloc_new w (.cells #[.string xc, .string xz, .int .i64 kd, .int .i64 ai, .int .i64 pl, .int .i64 vo, .int .i64 we, .bool fz] 57)
    exact (by simpa using hq)))
  have HBW : Hid (∀ W, Below W0.heap.size W0 W → Below w.heap.size w W ∧ w.heap.size + 1 ≤ W.heap.size) := Lib.hid (fun W hW => ⟨hb0.trans (hW.mono (by omega)), by have := hW.size; omega⟩)
  have huh := Try.underlying37
  have HSH : Hid (∀ a : Hs, (Try.prog.info? 37).map (·.size) = some a.cells.size) := Lib.hid (fun a => by kernel_rfl)
  have huHX := Try.underlying57
  have HSHX : Hid ((Try.prog.info? 57).map (·.size) = some 8) := Lib.hid (by kernel_rfl)
  have HCHX : Hid (∀ W, Below W0.heap.size W0 W → W.cell? ⟨w.heap.size, 0, none⟩ = some (.string xc) ∧ W.cell? ⟨w.heap.size, 1, none⟩ = some (.string xz) ∧ W.cell? ⟨w.heap.size, 2, none⟩ = some (.int .i64 kd) ∧ W.cell? ⟨w.heap.size, 3, none⟩ = some (.int .i64 ai) ∧ W.cell? ⟨w.heap.size, 4, none⟩ = some (.int .i64 pl) ∧ W.cell? ⟨w.heap.size, 5, none⟩ = some (.int .i64 vo) ∧ W.cell? ⟨w.heap.size, 6, none⟩ = some (.int .i64 we) ∧ W.cell? ⟨w.heap.size, 7, none⟩ = some (.bool fz) ∧ w.heap.size < W.heap.size) := Lib.hid (fun W hW => ⟨by rw [cell_of_block (HX.out W hW)]; rfl, by rw [cell_of_block (HX.out W hW)]; rfl, by rw [cell_of_block (HX.out W hW)]; rfl, by rw [cell_of_block (HX.out W hW)]; rfl, by rw [cell_of_block (HX.out W hW)]; rfl, by rw [cell_of_block (HX.out W hW)]; rfl, by rw [cell_of_block (HX.out W hW)]; rfl, by rw [cell_of_block (HX.out W hW)]; rfl, by have := hW.size; omega⟩)
  have HH : Hid (∀ W, Below W0.heap.size W0 W → W.heap[bh]? = some (.cells h.cells 37 (0, 0))) := Lib.hid (fun W hW => (HK0.out W (HBW.out W hW).1).1)
  obtain ⟨_, k1, k2⟩ := HK0.out _ hb0
  rw [hW0] at k1 k2
  have hc0 := HCHX.out _ (Below.refl _ _)
  rw [hW0] at hc0
  obtain ⟨hx0, hx1, hx2, hx3, hx4, hx5, hx6, hx7, hlthx⟩ := hc0
  have H0 := Lib.hid (Below.refl W0.heap.size W0)
  clear hb0 hs0 hh
  subst hW0
  go_enter Try.func81, Try.ntmps81
  go_wp2_with (first
    | (refine wpList_load_row rfl 37 (.tmp 1) rfl bh rfl _ _ _ _ (HH.out _ H0.out) huh rfl (HSH.out _) ?_)
    | fail)
  refine (CS.out _ (HBW.out _ H0.out).1).mono ?_
  rintro e w1 ⟨rfl, hb1⟩
  have H1 := Lib.hid (H0.out.trans (hb1.mono H0.out.size))
  clear hb1
  cases st with
  | false =>
    go_wp2_with fail
    go_ret
    exact ⟨rfl, (HBW.out _ H1.out).1⟩
  | true =>
    have HSHL : Hid (∀ a : Hs, (Try.prog.info? 37).map (·.size) = some a.cells.toList.length) := Lib.hid (fun a => by kernel_rfl)
    go_wp2_with (first
      | (refine BigFrame.wpList_want (by kernel_rfl) (fun K hK => Go.wp_load_mid 37 (.tmp 1) rfl bh 0 rfl h.cells.toList _ (row0c (HH.out _ H1.out)) huh rfl (HSHL.out _) (hK _ _ ?_)); clear hK K)
      | (refine BigFrame.wpList_want (by kernel_rfl) (fun K hK => Go.wp_load_mid 57 (.tmp 3) rfl w.heap.size 0 rfl [.string xc, .string xz, .int .i64 kd, .int .i64 ai, .int .i64 pl, .int .i64 vo, .int .i64 we, .bool fz] _ (row0c (HX.out _ H1.out)) huHX rfl HSHX.out (hK _ _ ?_)); clear hK K)
      | fail)
    refine (CF.out _ (HBW.out _ H1.out).1).mono ?_
    rintro e w2 ⟨rfl, hb2⟩
    have H2 := Lib.hid (H1.out.trans (hb2.mono H1.out.size))
    clear hb2
    go_wp2_with fail
    go_ret
    exact ⟨rfl, (HBW.out _ H2.out).1⟩

set_option maxRecDepth 100000 in
set_option maxHeartbeats 3200000 in
theorem coverfills_any (h : Hs) (L : Nat → List (List Value)) (t : ByteArray) (w : World) (hh : HT h L w) :
    Calls Try.prog 52 #[.agg h.cells, .string t] w fun e w' => e = .returned (.bool ((L 3).any (badB (L 0) (L 4) t))) ∧ Below w.heap.size w w' := by
  have hmf : ∀ (fn : Fn) (first cap : Array Value) (w : World), (Instr.makeFunc fn first cap).run Try.prog w = .ok (.func fn first cap) w := fun _ _ _ _ => rfl
  have hn9 := (hh 3 (by decide)).2.1
  obtain ⟨m, hmm⟩ : ∃ m, h.n 3 = m := ⟨_, rfl⟩
  rw [hmm] at hn9
  have HMM := Lib.hid hmm
  clear hmm
  obtain ⟨W0, hW0⟩ : ∃ W0, W0 = ((w.alloc (.cells h.cells 37)).alloc (.cells #[.string t] 9)) := ⟨_, rfl⟩
  have hb0 : Below w.heap.size w W0 := by rw [hW0]; exact ((Below.refl _ _).alloc (Nat.le_refl _) _).alloc (by simp <;> omega) _
  have hs0 : W0.heap.size = w.heap.size + 2 := by rw [hW0]; simp
  have HH : Hid (∀ W, Below W0.heap.size W0 W → W.heap[w.heap.size]? = some (.cells h.cells 37 (0, 0))) := Lib.hid (fun W hW => (hW.block _ (by omega)).trans (by
    rw [hW0]
    have hq := heap_alloc_new w (.cells h.cells 37)
    exact (Below.heap_alloc _ _ _ (by simp <;> omega)).trans ((by simpa using hq))))
  have HA2 : Hid (∀ W, Below W0.heap.size W0 W → W.heap[w.heap.size + 1]? = some (.cells #[.string t] 9 (0, 0))) := Lib.hid (fun W hW => (hW.block _ (by omega)).trans (by
    rw [hW0]
    have hq := heap_alloc_new (w.alloc (.cells h.cells 37)) (.cells #[.string t] 9)
    exact (by simpa using hq)))
  have HBW : Hid (∀ W, Below W0.heap.size W0 W → Below w.heap.size w W ∧ w.heap.size + 2 ≤ W.heap.size) := Lib.hid (fun W hW => ⟨hb0.trans (hW.mono (by omega)), by have := hW.size; omega⟩)
  have huh := Try.underlying37
  have HSH : Hid (∀ a : Hs, (Try.prog.info? 37).map (·.size) = some a.cells.size) := Lib.hid (fun a => by kernel_rfl)
  have huHA2 := Try.underlying9
  have HSHA2 : Hid ((Try.prog.info? 9).map (·.size) = some 1) := Lib.hid (by kernel_rfl)
  have HCHA2 : Hid (∀ W, Below W0.heap.size W0 W → W.cell? ⟨w.heap.size + 1, 0, none⟩ = some (.string t) ∧ w.heap.size + 1 < W.heap.size) := Lib.hid (fun W hW => ⟨by rw [cell_of_block (HA2.out W hW)]; rfl, by have := hW.size; omega⟩)
  have HL3 : Hid (∀ W, Below W0.heap.size W0 W → W.cell? ⟨w.heap.size, 3, none⟩ = some (.slice (h.A 3) m (h.c 3)) ∧ w.heap.size < W.heap.size) := Lib.hid (fun W hW => ⟨by rw [cell_of_block (HH.out W hW), ← HMM.out]; rfl, by have := hW.size; omega⟩)
  have HBW0 : ∀ W, Below W0.heap.size W0 W → Below w.heap.size w W := fun W hW => (HBW.out W hW).1
  have HAS : Hid (∀ W, Below W0.heap.size W0 W → Calls Try.prog 80 #[.slice (h.A 3) m (h.c 3), .func (.func 81) #[] #[.pointer (some ⟨w.heap.size, 0, none⟩), .pointer (some ⟨w.heap.size + 1, 0, none⟩)]] W fun e w' => e = .returned (.bool ((L 3).any (badB (L 0) (L 4) t))) ∧ Below W.heap.size W w') := Lib.hid (fun W hW => by
    refine hasBin (h.A 3) m (h.c 3) 81 #[.pointer (some ⟨w.heap.size, 0, none⟩), .pointer (some ⟨w.heap.size + 1, 0, none⟩)] (badB (L 0) (L 4) t) (L 3) W (by rw [← HMM.out]; exact (hh 3 (by decide)).1) hn9 (hh 3 (by decide)).2.2.1 (((hh.below (HBW0 W hW)) 3 (by decide)).2.2.2) ⟨enters_of Try.func81 (by kernel_rfl) rfl, fun V hV e he => ?_⟩
    have hB := hW.trans (hV.mono hW.size)
    have hc := bn_cells he
    have hcd := code_bn he
    obtain ⟨q, hq⟩ : ∃ q, bnOf e = q := ⟨_, rfl⟩
    show Calls _ _ _ _ (fun r W' => r = .returned (.bool (standsQ (L 4) (codeOf e) t && fullB (L 0) (L 4) (bnOf e))) ∧ Below V.heap.size V W')
    rw [hcd]
    rw [hq] at hc ⊢
    subst hc
    exact cover1_any _ _ h L t q.code q.zone q.kind q.aisle q.place q.vol q.wei q.frz V (hh.below (HBW0 V hB)) (HH.out V hB) (HCHA2.out V hB).1 (HCHA2.out V hB).2)
  have H0 := Lib.hid (Below.refl W0.heap.size W0)
  clear hb0 hs0 hh
  subst hW0
  go_enter Try.func52, Try.ntmps52
  obtain ⟨d3, dlt⟩ := HL3.out _ H0.out
  go_wp2_with fail
  refine (HAS.out _ H0.out).mono ?_
  rintro e w1 ⟨rfl, hb1⟩
  have H1 := Lib.hid (H0.out.trans (hb1.mono H0.out.size))
  clear hb1 d3 dlt
  go_wp2_with fail
  go_ret
  exact ⟨rfl, (HBW.out _ H1.out).1⟩

end Go.Proofs.Ythoblccmdadmmaa
