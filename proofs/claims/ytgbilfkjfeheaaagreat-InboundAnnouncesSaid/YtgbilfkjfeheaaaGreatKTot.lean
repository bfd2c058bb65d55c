/-
 CONTRACTS of inbound's totalsByItem, withIn. (By wip/tools/gen_kin.py.)
-/
import Derived.Test.YtgbilfkjfeheaaaGreatKL
import Derived.Test.YtgbilfkjfeheaaaGreatKP
import Derived.Test.YtgbilfkjfeheaaaGreatJHead
import Derived.Test.YtgbilfkjfeheaaaGreatGT
import Derived.BigQuiet
import Derived.Deep.RegionHeld3
import Derived.Deep.CutRange
namespace Go.Proofs.YtgbilfkjfeheaaaGreat
set_option linter.unusedVariables false
open Go.RowKit
open Pl (firstG findG putG It firstG_none firstG_some)

set_option maxRecDepth 100000 in
theorem orderT_any (x y : List Value) (w : World) (hx : Fits kTotal x) (hy : Fits kTotal y) : Calls Tryz.prog 155 #[.agg x.toArray, .agg y.toArray] w fun e w' => e = .returned (.int .i64 (ordL x y)) ∧ Below w.heap.size w w' := by
 have hxr := total_cells hx
 have hyr := total_cells hy
 have HV : Hid (ordL x y = if Pl.cmp (itemL x) (itemL y) = 0 then Pl.cmp (codeL x) (codeL y) else Pl.cmp (itemL x) (itemL y)) := Lib.hid rfl
 obtain ⟨a, ha⟩ : ∃ s, itemL x = s := ⟨_, rfl⟩
 obtain ⟨b, hb⟩ : ∃ s, codeL x = s := ⟨_, rfl⟩
 obtain ⟨c, hc⟩ : ∃ s, itemL y = s := ⟨_, rfl⟩
 obtain ⟨d, hd⟩ : ∃ s, codeL y = s := ⟨_, rfl⟩
 obtain ⟨z0, hz0⟩ : ∃ s, (tlOf x).inn = s := ⟨_, rfl⟩
 obtain ⟨z1, hz1⟩ : ∃ s, (tlOf x).out = s := ⟨_, rfl⟩
 obtain ⟨z2, hz2⟩ : ∃ s, (tlOf x).back = s := ⟨_, rfl⟩
 obtain ⟨z3, hz3⟩ : ∃ s, (tlOf x).fixed = s := ⟨_, rfl⟩
 obtain ⟨u0, hu0⟩ : ∃ s, (tlOf y).inn = s := ⟨_, rfl⟩
 obtain ⟨u1, hu1⟩ : ∃ s, (tlOf y).out = s := ⟨_, rfl⟩
 obtain ⟨u2, hu2⟩ : ∃ s, (tlOf y).back = s := ⟨_, rfl⟩
 obtain ⟨u3, hu3⟩ : ∃ s, (tlOf y).fixed = s := ⟨_, rfl⟩
 rw [ha, hb, hc, hd] at HV
 rw [ha, hb, hz0, hz1, hz2, hz3] at hxr
 rw [hc, hd, hu0, hu1, hu2, hu3] at hyr
 clear ha hb hc hd hz0 hz1 hz2 hz3 hu0 hu1 hu2 hu3 hx hy
 obtain ⟨v, hv⟩ : ∃ v, ordL x y = v := ⟨_, rfl⟩
 rw [hv] at HV ⊢
 clear hv
 subst hxr hyr
 go_enter Tryz.func155, Tryz.ntmps155
 obtain ⟨W0, hW0⟩ : ∃ W0, W0 = (w.alloc (.cells #[.string a, .string b, .int .i64 z0, .int .i64 z1, .int .i64 z2, .int .i64 z3] 75)).alloc (.cells #[.string c, .string d, .int .i64 u0, .int .i64 u1, .int .i64 u2, .int .i64 u3] 75) := ⟨_, rfl⟩
 have hb0 : Below w.heap.size w W0 := by rw [hW0]; exact ((Below.refl _ _).alloc (Nat.le_refl _) _).alloc (by simp) _
 have hs0 : W0.heap.size = w.heap.size + 2 := by rw [hW0]; simp
 have HST : Hid (∀ W, Below W0.heap.size W0 W → W.cell? ⟨w.heap.size, 0, none⟩ = some (.string a) ∧ W.cell? ⟨w.heap.size, 1, none⟩ = some (.string b) ∧ W.cell? ⟨w.heap.size + 1, 0, none⟩ = some (.string c) ∧ W.cell? ⟨w.heap.size + 1, 1, none⟩ = some (.string d)) := Lib.hid (fun W hW => by
  have h1 : W.heap[w.heap.size]? = some (.cells #[.string a, .string b, .int .i64 z0, .int .i64 z1, .int .i64 z2, .int .i64 z3] 75 (0, 0)) := (hW.block _ (by omega)).trans (by rw [hW0]; exact (Below.heap_alloc _ _ _ (by simp)).trans (heap_alloc_new _ _))
  have h2 : W.heap[w.heap.size + 1]? = some (.cells #[.string c, .string d, .int .i64 u0, .int .i64 u1, .int .i64 u2, .int .i64 u3] 75 (0, 0)) := (hW.block _ (by omega)).trans (by
   rw [hW0]
   have := heap_alloc_new (w.alloc (.cells #[.string a, .string b, .int .i64 z0, .int .i64 z1, .int .i64 z2, .int .i64 z3] 75)) (.cells #[.string c, .string d, .int .i64 u0, .int .i64 u1, .int .i64 u2, .int .i64 u3] 75)
   simpa using this)
  exact ⟨by rw [cell_of_block h1]; rfl, by rw [cell_of_block h1]; rfl, by rw [cell_of_block h2]; rfl, by rw [cell_of_block h2]; rfl⟩)
 have HB0 := Lib.hid hb0
 have BN := Lib.hid ((Below.refl W0.heap.size W0).drew)
 clear hb0
 go_wp2_with fail
 rw [← hW0]
 clear hW0 hs0
 have ST0 := HST.out _ BN.out
 refine wp_region_noPanic ?_
 refine wp_region_held_drew (S := (fun W => W.cell? ⟨w.heap.size, 0, none⟩ = some (.string a) ∧ W.cell? ⟨w.heap.size, 1, none⟩ = some (.string b) ∧ W.cell? ⟨w.heap.size + 1, 0, none⟩ = some (.string c) ∧ W.cell? ⟨w.heap.size + 1, 1, none⟩ = some (.string d))) (by kernel_rfl) ST0 (fun dd0 => ?_)
 refine tkE 0 (.pointer (some ⟨w.heap.size, 0, none⟩)) rfl ?_
 (try simp only [ax])
 refine tkF 1 (.string a) rfl (.inl ⟨by kernel_rfl, fun w hw => by obtain ⟨hc0, hc1, hc2, hc3⟩ := hw; go_simp⟩) ?_
 (try simp only [ax])
 refine tkE 2 (.pointer (some ⟨w.heap.size + 1, 0, none⟩)) rfl ?_
 (try simp only [ax])
 refine tkF 3 (.string c) rfl (.inl ⟨by kernel_rfl, fun w hw => by obtain ⟨hc0, hc1, hc2, hc3⟩ := hw; go_simp⟩) ?_
 (try simp only [ax])
 refine tkE 5 (.pointer (some ⟨w.heap.size, 1, none⟩)) rfl ?_
 (try simp only [ax])
 refine tkF 6 (.string b) rfl (.inl ⟨by kernel_rfl, fun w hw => by obtain ⟨hc0, hc1, hc2, hc3⟩ := hw; go_simp⟩) ?_
 (try simp only [ax])
 refine tkE 7 (.pointer (some ⟨w.heap.size + 1, 1, none⟩)) rfl ?_
 (try simp only [ax])
 refine tkF 8 (.string d) rfl (.inl ⟨by kernel_rfl, fun w hw => by obtain ⟨hc0, hc1, hc2, hc3⟩ := hw; go_simp⟩) ?_
 (try simp only [ax])
 refine wpAnyH_ready (rs := [4]) (by kernel_rfl) (by simp) ?_
 refine AllReadyH.cons rfl (fun K' hK => ?_) AllReadyH.nil
 go_simp
 refine (compare_any a c _).mono ?_
 rintro e wn ⟨rfl, rfl⟩
 refine hK.out _ _ (HST.out _ BN.out) (fun _ => ?_)
 clear hK K'
 (try simp only [ax])
 refine wpAnyH_ready (rs := [9]) (by kernel_rfl) (by simp) ?_
 refine AllReadyH.cons rfl (fun K' hK => ?_) AllReadyH.nil
 go_simp
 refine (compare_any b d _).mono ?_
 rintro e wn ⟨rfl, rfl⟩
 refine hK.out _ _ (HST.out _ BN.out) (fun _ => ?_)
 clear hK K'
 (try simp only [ax])
 obtain ⟨p1, hp1⟩ : ∃ p, Pl.cmp a c = p := ⟨_, rfl⟩
 obtain ⟨p2, hp2⟩ : ∃ p, Pl.cmp b d = p := ⟨_, rfl⟩
 rw [hp1, hp2] at HV ⊢
 clear hp1 hp2
 refine wpAnyH_ready (rs := [10]) (by kernel_rfl) (by simp) ?_
 refine AllReadyH.cons rfl (fun K' hK => ?_) AllReadyH.nil
 go_simp
 have hnew := heap_alloc_new W0 (.cells #[.int .i64 p1, .int .i64 p2] 3)
 have BA : Hid (Below W0.heap.size W0 (W0.alloc (.cells #[.int .i64 p1, .int .i64 p2] 3)).drew) := Lib.hid (((Below.refl _ _).alloc (Nat.le_refl _) _).drew)
 have HNEW : Hid ((W0.alloc (.cells #[.int .i64 p1, .int .i64 p2] 3)).drew.heap[W0.heap.size]? = some (.cells #[.int .i64 p1, .int .i64 p2] 3 (0, 0))) := Lib.hid hnew
 clear hnew
 refine hK.out _ _ (HST.out _ BA.out) (fun _ => ?_)
 clear hK K'
 (try simp only [ax])
 refine wpAnyH_ready (rs := [11]) (by kernel_rfl) (by simp) ?_
 refine AllReadyH.cons rfl (fun K' hK => ?_) AllReadyH.nil
 go_simp
 refine (lor_any (some ⟨W0.heap.size, 0, none⟩) p1 p2 2 _ ⟨_, rfl, HNEW.out⟩).mono ?_
 rintro e wn ⟨rfl, rfl⟩
 refine hK.out _ _ (HST.out _ BA.out) (fun _ => ?_)
 clear hK K'
 (try simp only [ax])
 rw [← HV.out]
 refine tkE 12 (.int .i64 v) rfl ?_
 (try simp only [ax])
 refine wpAnyH_done (by kernel_rfl) ?_ _
 refine NoPanic.normal ?_
 clear ST0
 go_wp2_with fail
 go_ret
 exact ⟨rfl, HB0.out.trans (BA.out.mono HB0.out.size)⟩
theorem tellsT (w : World) : TellsO kTotal w 155 #[] ordL := ⟨fun args W => by kernel_rfl, fun W _ a b ha hb => orderT_any a b W ha hb⟩
abbrev tvT : Value := .func (.func 155) #[] #[]
attribute [local go_sem] store_func
theorem tabT_any (w : World) : Calls Tryz.prog 110 #[] w fun e w' => e = .returned (.agg #[tvT]) ∧ Below w.heap.size w w' := by
 go_enter Tryz.func110, Tryz.ntmps110
 go_wp2
 refine bodyPost_ret (v := .agg #[tvT]) ?_ rfl ⟨rfl, ?_⟩
 · simp [results, Tryz.results110, go_sem]
 · exact (Below.refl _ _).alloc (Nat.le_refl _) _
set_option maxRecDepth 100000 in
set_option maxHeartbeats 3200000 in
theorem cwithIn (h : Hs) (L : Nat → List (List Value)) (ci cl : ByteArray) (q : Int) (w : World) (hh : HT h L w) (hn13 : h.n 13 ≤ 1100) (hc1 : h.n 13 ≤ h.c 13 ∧ h.c 13 ≤ 9223372036854775807) :
 Calls Tryz.prog 73 #[.agg h.cells, .string ci, .string cl, .int .i64 q] w fun e w' => Below w.heap.size w w' ∧ ∃ A n c, n = (putG ordL (L 13) ((tlOf (gotT (L 13) ci cl)).add q).cells).length ∧ w'.ownsRow w.heap.size 75 6 (.slice A n c) n (putG ordL (L 13) ((tlOf (gotT (L 13) ci cl)).add q).cells).flatten ∧ e = .returned (.agg (h.set 13 A n c).cells) := by
 have HHT := Lib.hid hh
 obtain ⟨m, hmm⟩ : ∃ m, h.n 13 = m := ⟨_, rfl⟩
 obtain ⟨lx, hlx⟩ : ∃ l, (putG ordL (L 13) ((tlOf (gotT (L 13) ci cl)).add q).cells) = l := ⟨_, rfl⟩
 obtain ⟨⟨ti, tk, tn, tu, tb, tf⟩, ht⟩ : ∃ t, tlOf (gotT (L 13) ci cl) = t := ⟨_, rfl⟩
 have HTT : Hid (gotT (L 13) ci cl = [.string ti, .string tk, .int .i64 tn, .int .i64 tu, .int .i64 tb, .int .i64 tf]) := Lib.hid (by have := tl_cells (gotT_fits (hh 13 (by decide)).2.2.1 ci cl); rw [ht] at this; exact this)
 have hlx2 : putG ordL (L 13) [.string ti, .string tk, .int .i64 (wrap64 (tn + q)), .int .i64 tu, .int .i64 tb, .int .i64 tf] = lx := by rw [← hlx, ht]; rfl
 have HPU : Hid (∀ W, Below w.heap.size w W → Calls Tryz.prog 112 #[.agg #[tvT], .slice (h.A 13) m (h.c 13), .agg #[.string ti, .string tk, .int .i64 (wrap64 (tn + q)), .int .i64 tu, .int .i64 tb, .int .i64 tf]] W (NewTotal W lx)) := Lib.hid (fun W hW => by have h9 := putTotal (h.A 13) (h.n 13) (h.c 13) 155 #[] ordL [.string ti, .string tk, .int .i64 (wrap64 (tn + q)), .int .i64 tu, .int .i64 tb, .int .i64 tf] (L 13) W (hh 13 (by decide)).1 hc1.1 hc1.2 (by omega) (hh 13 (by decide)).2.2.1 (Tl.fits ⟨ti, tk, wrap64 (tn + q), tu, tb, tf⟩) ((hh.below hW) 13 (by decide)).2.2.2 (tellsT W); rw [hmm, hlx2] at h9; exact h9)
 obtain ⟨o, ho⟩ : ∃ o, atL (L 13) ci cl = o := ⟨_, rfl⟩
 have HFI : Hid (∀ W, Below w.heap.size w W → Calls Tryz.prog 111 #[.agg #[tvT], .slice (h.A 13) m (h.c 13), .agg #[.string ci, .string cl, .int .i64 0, .int .i64 0, .int .i64 0, .int .i64 0]] W fun e w' => e = .returned (firstV o) ∧ Below W.heap.size W w') := Lib.hid (fun W hW => by have h9 := findTotal (h.A 13) (h.n 13) (h.c 13) 155 #[] ordL [.string ci, .string cl, .int .i64 0, .int .i64 0, .int .i64 0, .int .i64 0] (L 13) W (hh 13 (by decide)).1 (hh 13 (by decide)).2.1 (hh 13 (by decide)).2.2.1 (zeroT_fits ci cl) ((hh.below hW) 13 (by decide)).2.2.2 (tellsT W); rw [hmm, show findG ordL (L 13) [.string ci, .string cl, .int .i64 0, .int .i64 0, .int .i64 0, .int .i64 0] = atL (L 13) ci cl from rfl, ho] at h9; exact h9)
 have HNM : Hid (m = (L 13).length) := Lib.hid (by rw [← hmm]; exact (hh 13 (by decide)).1)
 have HO := Lib.hid ho
 have HMM := Lib.hid hmm
 rw [hmm] at hn13
 have HS6 : Hid (∀ (a b : ByteArray) (c d e f : Int), (Tryz.prog.info? 75).map (·.size) = some (#[.string a, .string b, .int .i64 c, .int .i64 d, .int .i64 e, .int .i64 f] : Array Value).size) := Lib.hid (fun _ _ _ _ _ _ => by kernel_rfl)
 have HO6 : Hid (∀ (a b : ByteArray) (c d e f : Int), (#[.string a, .string b, .int .i64 c, .int .i64 d, .int .i64 e, .int .i64 f] : Array Value).all (·.oneCell') = true) := Lib.hid (fun _ _ _ _ _ _ => by simp [Value.oneCell'])
 have HS6L : Hid ((Tryz.prog.info? 75).map (·.size) = some 6) := Lib.hid (by kernel_rfl)
 have huTO := Tryz.underlying75
 rw [hlx]
 clear hlx hlx2 ht hmm ho
 obtain ⟨W0, hW0⟩ : ∃ W0, W0 = ((w.alloc (.cells h.cells 37)).alloc (.cells #[.slice none 0 0, .slice none 0 0, .slice none 0 0, .slice none 0 0, .slice none 0 0, .slice none 0 0, .slice none 0 0, .slice none 0 0, .slice none 0 0, .slice none 0 0, .slice none 0 0, .slice none 0 0, .slice none 0 0, .slice none 0 0, .int .i64 0] 37)) := ⟨_, rfl⟩
 have hb0 : Below w.heap.size w W0 := by rw [hW0]; exact ((Below.refl _ _).alloc (Nat.le_refl _) _).alloc (by simp <;> omega) _
 have hs0 : W0.heap.size = w.heap.size + 2 := by rw [hW0]; simp
 have HH : Hid (∀ W, Below W0.heap.size W0 W → W.heap[w.heap.size]? = some (.cells h.cells 37 (0, 0))) := Lib.hid (fun W hW => (hW.block _ (by omega)).trans (by
  rw [hW0]
  have hq := heap_alloc_new w (.cells h.cells 37)
  exact (Below.heap_alloc _ _ _ (by simp <;> omega)).trans ((by simpa using hq))))
 have HZ : Hid (∀ W, Below W0.heap.size W0 W → W.heap[w.heap.size + 1]? = some (.cells Hs.zero 37 (0, 0))) := Lib.hid (fun W hW => (hW.block _ (by omega)).trans (by
  rw [hW0]
  have hq := heap_alloc_new (w.alloc (.cells h.cells 37)) (.cells #[.slice none 0 0, .slice none 0 0, .slice none 0 0, .slice none 0 0, .slice none 0 0, .slice none 0 0, .slice none 0 0, .slice none 0 0, .slice none 0 0, .slice none 0 0, .slice none 0 0, .slice none 0 0, .slice none 0 0, .slice none 0 0, .int .i64 0] 37)
  exact (by simpa [Hs.zero] using hq)))
 have HBW : Hid (∀ W, Below W0.heap.size W0 W → Below w.heap.size w W ∧ w.heap.size + 2 ≤ W.heap.size) := Lib.hid (fun W hW => ⟨hb0.trans (hW.mono (by omega)), by have := hW.size; omega⟩)
 have huh := Tryz.underlying37
 have HSH : Hid (∀ a : Hs, (Tryz.prog.info? 37).map (·.size) = some a.cells.size) := Lib.hid (fun a => by kernel_rfl)
 have HSQ : Hid ((Tryz.prog.info? 37).map (·.size) = some Hs.zero.size) := Lib.hid (by kernel_rfl)
 have H1C : Hid (∀ a : Hs, a.cells.all (·.oneCell') = true) := Lib.hid (fun a => by simp [Hs.cells, Value.oneCell'])
 have H1Q : Hid (Hs.zero.all (·.oneCell') = true) := Lib.hid (by simp [Hs.zero, Value.oneCell'])
 have HLI : Hid (∀ W, Below W0.heap.size W0 W → W.cell? ⟨w.heap.size, 13, none⟩ = some (.slice (h.A 13) m (h.c 13)) ∧ w.heap.size < W.heap.size) := Lib.hid (fun W hW => ⟨by rw [cell_of_block (HH.out W hW), ← HMM.out]; rfl, by have := hW.size; omega⟩)
 have H0 := Lib.hid (Below.refl W0.heap.size W0)
 clear hb0 hs0 hh hn13 hc1
 subst hW0
 go_enter Tryz.func73, Tryz.ntmps73
 obtain ⟨w1, hw1⟩ : ∃ W, W = ((w.alloc (.cells h.cells 37)).alloc (.cells #[.slice none 0 0, .slice none 0 0, .slice none 0 0, .slice none 0 0, .slice none 0 0, .slice none 0 0, .slice none 0 0, .slice none 0 0, .slice none 0 0, .slice none 0 0, .slice none 0 0, .slice none 0 0, .slice none 0 0, .slice none 0 0, .int .i64 0] 37)).alloc (.cells #[.string ci, .string cl, .int .i64 0, .int .i64 0, .int .i64 0, .int .i64 0] 75) := ⟨_, rfl⟩
 have H1 : Hid (Below ((w.alloc (.cells h.cells 37)).alloc (.cells #[.slice none 0 0, .slice none 0 0, .slice none 0 0, .slice none 0 0, .slice none 0 0, .slice none 0 0, .slice none 0 0, .slice none 0 0, .slice none 0 0, .slice none 0 0, .slice none 0 0, .slice none 0 0, .slice none 0 0, .slice none 0 0, .int .i64 0] 37)).heap.size ((w.alloc (.cells h.cells 37)).alloc (.cells #[.slice none 0 0, .slice none 0 0, .slice none 0 0, .slice none 0 0, .slice none 0 0, .slice none 0 0, .slice none 0 0, .slice none 0 0, .slice none 0 0, .slice none 0 0, .slice none 0 0, .slice none 0 0, .slice none 0 0, .slice none 0 0, .int .i64 0] 37)) w1) := Lib.hid (by rw [hw1]; exact (Below.refl _ _).alloc (Nat.le_refl _) _)
 have HX1 : Hid (∀ W, Below w1.heap.size w1 W → W.heap[w.heap.size + 2]? = some (.cells #[.string ci, .string cl, .int .i64 0, .int .i64 0, .int .i64 0, .int .i64 0] 75 (0, 0))) := Lib.hid (fun W hW => (hW.block _ (by rw [hw1]; simp)).trans (by rw [hw1]; have := heap_alloc_new ((w.alloc (.cells h.cells 37)).alloc (.cells #[.slice none 0 0, .slice none 0 0, .slice none 0 0, .slice none 0 0, .slice none 0 0, .slice none 0 0, .slice none 0 0, .slice none 0 0, .slice none 0 0, .slice none 0 0, .slice none 0 0, .slice none 0 0, .slice none 0 0, .slice none 0 0, .int .i64 0] 37)) (.cells #[.string ci, .string cl, .int .i64 0, .int .i64 0, .int .i64 0, .int .i64 0] 75); simpa using this))
 have HW1 := Lib.hid hw1
 have HG1 : Hid (((w.alloc (.cells h.cells 37)).alloc (.cells #[.slice none 0 0, .slice none 0 0, .slice none 0 0, .slice none 0 0, .slice none 0 0, .slice none 0 0, .slice none 0 0, .slice none 0 0, .slice none 0 0, .slice none 0 0, .slice none 0 0, .slice none 0 0, .slice none 0 0, .slice none 0 0, .int .i64 0] 37)).heap.size ≤ w.heap.size + 2) := Lib.hid (by simp)
 clear hw1
 go_upto_region 2 with fail
 rw [← HW1.out]
 have y13 : ∀ X : BW w1, X.W.cell? ⟨w.heap.size, 13, none⟩ = some (.slice (h.A 13) m (h.c 13)) := fun X => (HLI.out _ (H1.out.trans (X.h.mono H1.out.size))).1
 have RX : Hid (∀ X : BW w1, X.W.heap[w.heap.size + 2]? = some (.cells #[.string ci, .string cl, .int .i64 0, .int .i64 0, .int .i64 0, .int .i64 0] 75 (0, 0))) := Lib.hid (fun X => HX1.out _ X.h)
 have CFX : Hid (∀ X : BW w1, Calls Tryz.prog 111 #[.agg #[tvT], .slice (h.A 13) m (h.c 13), .agg #[.string ci, .string cl, .int .i64 0, .int .i64 0, .int .i64 0, .int .i64 0]] X.W fun e w' => e = .returned (firstV o) ∧ Below X.W.heap.size X.W w') := Lib.hid (fun X => HFI.out _ (HBW.out _ (H1.out.trans (X.h.mono H1.out.size))).1)
 go_wp2_with fail
 refine wp_grow w1 (by kernel_rfl) (by kernel_rfl) (Below.refl _ _) ?_
 simp only []
 go_big_quiet_step (exact grow_call _ (tabT_any _))
 iterate 2 go_big_quiet_step (fail)
 refine BigFrame.wpQuiet_want (by kernel_rfl) (fun K hK => quiet_load_mid 75 (.tmp 9) rfl (w.heap.size + 2) 0 rfl [.string ci, .string cl, .int .i64 0, .int .i64 0, .int .i64 0, .int .i64 0] _ (fun W ⟨X, hX⟩ => by rw [hX]; exact range_row0 (RX.out X)) huTO rfl HS6L.out (hK _ ?_))
 simp only [ax]
 go_big_quiet_step (exact grow_call _ (CFX.out _))
 iterate 5 go_big_quiet_step (fail)
 refine wpQuiet_nil ?_
 intro X
 obtain ⟨w2, hb2⟩ := X
 simp only []
 have H2 := Lib.hid (H1.out.trans (hb2.mono H1.out.size))
 have HX2 := Lib.hid (HX1.out _ hb2)
 clear hb2 y13 RX CFX
 cases o with
 | none =>
  have ht0 : ([.string ci, .string cl, .int .i64 0, .int .i64 0, .int .i64 0, .int .i64 0] : List Value) = [.string ti, .string tk, .int .i64 tn, .int .i64 tu, .int .i64 tb, .int .i64 tf] := by have h1 := HTT.out; unfold gotT at h1; rw [HO.out] at h1; exact h1
  have HX3 : Hid (w2.heap[w.heap.size + 2]? = some (.cells #[.string ti, .string tk, .int .i64 tn, .int .i64 tu, .int .i64 tb, .int .i64 tf] 75 (0, 0))) := Lib.hid (by have h9 := HX2.out; rw [show (#[.string ci, .string cl, .int .i64 0, .int .i64 0, .int .i64 0, .int .i64 0] : Array Value) = #[.string ti, .string tk, .int .i64 tn, .int .i64 tu, .int .i64 tb, .int .i64 tf] from congrArg List.toArray ht0] at h9; exact h9)
  clear ht0
  obtain ⟨w3, hw3⟩ : ∃ W, W = w2 := ⟨_, rfl⟩
  have H3 := H2
  rw [← hw3] at H3 HX3 ⊢
  clear hw3
  have f2 : w3.frozen? ⟨w.heap.size + 2, 2, none⟩ = false := frozen_of_block HX3.out
  have e2 : w3.cell? ⟨w.heap.size + 2, 2, none⟩ = some (.int .i64 tn) := by rw [cell_of_block HX3.out]; rfl
  have elt := lt_of_block HX3.out
  obtain ⟨w4, hw4⟩ : ∃ W, W = w3.setCell ⟨w.heap.size + 2, 2, none⟩ (.int .i64 (wrap64 (tn + q))) := ⟨_, rfl⟩
  have HX4 : Hid (w4.heap[w.heap.size + 2]? = some (.cells #[.string ti, .string tk, .int .i64 (wrap64 (tn + q)), .int .i64 tu, .int .i64 tb, .int .i64 tf] 75 (0, 0))) := Lib.hid (by rw [hw4, block_setCell HX3.out]; rfl)
  have H4 : Hid (Below _ _ w4) := Lib.hid (by rw [hw4]; exact H3.out.setCell HG1.out _)
  have HW4 := Lib.hid hw4
  clear hw4
  go_upto_region 6 with fail
  rw [← HW4.out]
  clear f2 e2 elt
  obtain ⟨wB, hwB⟩ : ∃ W, W = w4 := ⟨_, rfl⟩
  have HWB0 := Lib.hid hwB
  have hob := H4.out
  rw [← hwB] at hob
  have HOB := Lib.hid hob
  clear hob
  have HXB : Hid (∀ W, Below wB.heap.size wB W → W.heap[w.heap.size + 2]? = some (.cells #[.string ti, .string tk, .int .i64 (wrap64 (tn + q)), .int .i64 tu, .int .i64 tb, .int .i64 tf] 75 (0, 0))) := Lib.hid (fun W hW => by have hq := HX4.out; rw [← HWB0.out] at hq; exact (hW.block _ (lt_of_block hq)).trans hq)
  have HST : Hid (∀ W, Below wB.heap.size wB W → W.cell? ⟨w.heap.size, 13, none⟩ = some (.slice (h.A 13) m (h.c 13)) ∧ W.rangeAt (w.heap.size + 2) 0 [.string ti, .string tk, .int .i64 (wrap64 (tn + q)), .int .i64 tu, .int .i64 tb, .int .i64 tf]) := Lib.hid (fun W hW => ⟨(HLI.out W (HOB.out.trans (hW.mono HOB.out.size))).1, range_cells (HXB.out W hW)⟩)
  have HWB := Lib.hid hwB
  clear hwB
  rw [← HWB.out]
  go_wp2_with fail
  refine lastW_region (S := (fun w' => w'.cell? ⟨w.heap.size, 13, none⟩ = some (.slice (h.A 13) (m) (h.c 13)) ∧ w'.rangeAt (w.heap.size + 2) 0 [.string ti, .string tk, .int .i64 (wrap64 (tn + q)), .int .i64 tu, .int .i64 tb, .int .i64 tf])) (n := 6) (by kernel_rfl) ?_
  have ST5 := HST.out _ (Below.refl wB.heap.size wB).drew
  refine LastW.take (i := 1) (v := .pointer (some ⟨w.heap.size, 13, none⟩)) rfl (by kernel_rfl) (by kernel_rfl) (by kernel_rfl) (by kernel_rfl) (by decide) (fun _ _ _ h => h.elim) (.inl ⟨by kernel_rfl, fun w hw => by clear hw; go_simp⟩) ST5 ?_
  (try simp only [ax])
  refine LastW.take (i := 2) (v := .slice (h.A 13) (m) (h.c 13)) rfl (by kernel_rfl) (by kernel_rfl) (by kernel_rfl) (by kernel_rfl) (by decide) (fun _ _ _ h => h.elim) (.inl ⟨by kernel_rfl, fun w hw => by have hw := hw.1; go_simp⟩) ST5 ?_
  (try simp only [ax])
  refine LastW.take (i := 3) (v := .agg #[.string ti, .string tk, .int .i64 (wrap64 (tn + q)), .int .i64 tu, .int .i64 tb, .int .i64 tf]) rfl (by kernel_rfl) (by kernel_rfl) (by kernel_rfl) (by kernel_rfl) (by decide) (fun _ _ _ h => h.elim) (yieldsIf_load_mid (by kernel_rfl) 75 (.tmp 9) rfl (w.heap.size + 2) 0 rfl [.string ti, .string tk, .int .i64 (wrap64 (tn + q)), .int .i64 tu, .int .i64 tb, .int .i64 tf] _ (fun w h => h.2) huTO rfl HS6L.out) ST5 ?_
  (try simp only [ax])
  refine LastW.one (i := 0) (by kernel_rfl) rfl (fun K hK => ?_)
  go_simp
  refine (tabT_any _).mono ?_
  rintro e w7 ⟨rfl, hb7⟩
  have H7 := Lib.hid ((Below.refl wB.heap.size wB).drew.trans (hb7.mono (Below.refl wB.heap.size wB).drew.size))
  clear hb7
  refine hK.out _ _ (fun _ => HST.out _ H7.out) (fun _ => ?_)
  clear hK K
  (try simp only [ax])
  have H7W := Lib.hid (HOB.out.trans (H7.out.mono HOB.out.size))
  refine LastW.one (i := 4) (by kernel_rfl) rfl (fun K hK => ?_)
  go_simp
  refine (HPU.out _ (HBW.out _ H7W.out).1).mono ?_
  rintro e w8 ⟨A5, n5, p5, hl5, rfl, hown5, hb8⟩
  have H8 := Lib.hid (H7.out.trans (hb8.mono H7.out.size))
  have H8W := Lib.hid (HOB.out.trans (H8.out.mono HOB.out.size))
  have HO5 := Lib.hid hown5
  have HLE := Lib.hid hl5
  clear hb8 hown5 hl5
  refine hK.out _ _ (fun _ => HST.out _ H8.out) (fun _ => ?_)
  clear hK K
  (try simp only [ax])
  refine LastW.take (i := 5) (v := .pointer (some ⟨w.heap.size, 13, none⟩)) rfl (by kernel_rfl) (by kernel_rfl) (by kernel_rfl) (by kernel_rfl) (by decide) (fun _ _ _ h => h.elim) (.inl ⟨by kernel_rfl, fun w hw => by clear hw; go_simp⟩) (HST.out _ H8.out) ?_
  (try simp only [ax])
  refine LastW.one (i := 6) (by kernel_rfl) rfl (fun K hK => ?_)
  have c5 := (HLI.out _ H8W.out).1
  have f5 : w8.frozen? ⟨w.heap.size, 13, none⟩ = false := frozen_of_block (HH.out _ H8W.out)
  have HZ5 := Lib.hid (HZ.out _ H8W.out)
  have HH5 := Lib.hid (HH.out _ H8W.out)
  have HB5 := Lib.hid (HBW.out _ H8W.out)
  go_simp
  refine hK.out _ _ (fun h => absurd rfl h) (fun _ => ?_)
  clear hK K
  (try simp only [ax])
  refine LastW.done (by kernel_rfl) ?_ _
  refine NoPanic.normal ?_
  have H9 : Hid ((w8.setCell ⟨w.heap.size, 13, none⟩ (.slice A5 n5 p5)).heap[w.heap.size]? = some (.cells (h.set 13 A5 n5 p5).cells 37 (0, 0))) := Lib.hid (by rw [block_setCell HH5.out, h.set_cells _ _ _ 13 (by decide)])
  have HZ6 : Hid ((w8.setCell ⟨w.heap.size, 13, none⟩ (.slice A5 n5 p5)).heap[w.heap.size + 1]? = some (.cells Hs.zero 37 (0, 0))) := Lib.hid ((block_setCell_other (by omega) _).trans HZ5.out)
  have HB6 : Hid (Below w.heap.size w (w8.setCell ⟨w.heap.size, 13, none⟩ (.slice A5 n5 p5))) := Lib.hid (HB5.out.1.setCell (Nat.le_refl _) _)
  have HS4 : Hid (w.heap.size + 1 < w7.heap.size) := Lib.hid (by have := (HBW.out _ H7W.out).2; omega)
  have HO6 : Hid ((w8.setCell ⟨w.heap.size, 13, none⟩ (.slice A5 n5 p5)).ownsRow w7.heap.size 75 6 (.slice A5 n5 p5) n5 lx.flatten) := Lib.hid (own_far HO5.out (by have := HS4.out; simp; omega) (Nat.le_refl _))
  generalize w8.setCell ⟨w.heap.size, 13, none⟩ (.slice A5 n5 p5) = w6 at *
  go_wp2_with (first
   | (refine wpList_load_row rfl 37 (.tmp 4) rfl w.heap.size rfl _ _ _ _ H9.out huh rfl (HSH.out _) ?_)
   | (refine wpList_store_row rfl 37 (.tmp 8) (.tmp 40) rfl (w.heap.size + 1) (h.set 13 A5 n5 p5).cells rfl rfl _ _ HZ6.out (HSH.out _) rfl (H1C.out _) ?_)
   | fail)
  exact bodyPost_ret (results_cell_row rfl _ _ (w.heap.size + 1) _ _ _ _ rfl (setRow_heap _ _ _ _ _ _ HZ6.out) huh rfl (HSH.out _)) rfl ⟨setRow_below HB6.out (by omega) _, A5, n5, p5, HLE.out, own_rowed HO6.out HS4.out (by have := HS4.out; omega), rfl⟩
 | some i =>
  have hl : i < (L 13).length := Pl.firstG_lt HO.out
  have hin : i < m := by rw [HNM.out]; exact hl
  obtain ⟨b, off, hA, hb, hcc⟩ := (HHT.out 13 (by decide)).2.2.2.thing (HHT.out 13 (by decide)).2.2.1 (by decide) hl
  have hg : (L 13)[i] = [.string ti, .string tk, .int .i64 tn, .int .i64 tu, .int .i64 tb, .int .i64 tf] := by have h1 := HTT.out; unfold gotT at h1; rw [HO.out] at h1; simp only [] at h1; rw [List.getD_eq_getElem?_getD, List.getElem?_eq_getElem hl] at h1; exact h1
  have r1 := hcc i hl
  rw [show (kOf 13).length = 6 from rfl, hg] at r1
  have HR1 := Lib.hid (rangeAt_below r1 hb (HBW.out _ H2.out).1)
  have d13 := (HLI.out _ H2.out).1
  rw [hA] at d13
  have hlt := (HLI.out _ H2.out).2
  have h1 : (0 : Int) ≤ (i : Int) := by omega
  have h2 : (i : Int) < (m : Int) := by omega
  have hbl : b < w2.heap.size := Nat.lt_of_lt_of_le hb (HBW.out _ H2.out).1.size
  obtain ⟨w3, hw3⟩ : ∃ W, W = w2.setRow (w.heap.size + 2) #[.string ti, .string tk, .int .i64 tn, .int .i64 tu, .int .i64 tb, .int .i64 tf] := ⟨_, rfl⟩
  have HX3 : Hid (w3.heap[w.heap.size + 2]? = some (.cells #[.string ti, .string tk, .int .i64 tn, .int .i64 tu, .int .i64 tb, .int .i64 tf] 75 (0, 0))) := Lib.hid (by rw [hw3]; exact setRow_heap _ _ _ _ _ _ HX2.out)
  have H3 : Hid (Below _ _ w3) := Lib.hid (by rw [hw3]; exact setRow_below H2.out HG1.out _)
  have HW3 := Lib.hid hw3
  clear hcc r1 hg hA hb hw3 hl hin
  rw [show plc (some i) = i from rfl]
  go_upto_region 5 with (first
   | (refine wpList_load_mid rfl 75 (.tmp 27) rfl b (off + i * 6) rfl [.string ti, .string tk, .int .i64 tn, .int .i64 tu, .int .i64 tb, .int .i64 tf] _ HR1.out huTO rfl HS6L.out ?_)
   | (refine wpList_store_row rfl 75 (.tmp 9) (.tmp 28) rfl (w.heap.size + 2) #[.string ti, .string tk, .int .i64 tn, .int .i64 tu, .int .i64 tb, .int .i64 tf] rfl rfl _ _ HX2.out (HS6.out _ _ _ _ _ _) rfl (HO6.out _ _ _ _ _ _) ?_; rw [← HW3.out])
   | fail)
  clear d13 hlt h1 h2 hbl
  have f2 : w3.frozen? ⟨w.heap.size + 2, 2, none⟩ = false := frozen_of_block HX3.out
  have e2 : w3.cell? ⟨w.heap.size + 2, 2, none⟩ = some (.int .i64 tn) := by rw [cell_of_block HX3.out]; rfl
  have elt := lt_of_block HX3.out
  obtain ⟨w4, hw4⟩ : ∃ W, W = w3.setCell ⟨w.heap.size + 2, 2, none⟩ (.int .i64 (wrap64 (tn + q))) := ⟨_, rfl⟩
  have HX4 : Hid (w4.heap[w.heap.size + 2]? = some (.cells #[.string ti, .string tk, .int .i64 (wrap64 (tn + q)), .int .i64 tu, .int .i64 tb, .int .i64 tf] 75 (0, 0))) := Lib.hid (by rw [hw4, block_setCell HX3.out]; rfl)
  have H4 : Hid (Below _ _ w4) := Lib.hid (by rw [hw4]; exact H3.out.setCell HG1.out _)
  have HW4 := Lib.hid hw4
  clear hw4
  go_upto_region 6 with fail
  rw [← HW4.out]
  clear f2 e2 elt
  obtain ⟨wB, hwB⟩ : ∃ W, W = w4 := ⟨_, rfl⟩
  have HWB0 := Lib.hid hwB
  have hob := H4.out
  rw [← hwB] at hob
  have HOB := Lib.hid hob
  clear hob
  have HXB : Hid (∀ W, Below wB.heap.size wB W → W.heap[w.heap.size + 2]? = some (.cells #[.string ti, .string tk, .int .i64 (wrap64 (tn + q)), .int .i64 tu, .int .i64 tb, .int .i64 tf] 75 (0, 0))) := Lib.hid (fun W hW => by have hq := HX4.out; rw [← HWB0.out] at hq; exact (hW.block _ (lt_of_block hq)).trans hq)
  have HST : Hid (∀ W, Below wB.heap.size wB W → W.cell? ⟨w.heap.size, 13, none⟩ = some (.slice (h.A 13) m (h.c 13)) ∧ W.rangeAt (w.heap.size + 2) 0 [.string ti, .string tk, .int .i64 (wrap64 (tn + q)), .int .i64 tu, .int .i64 tb, .int .i64 tf]) := Lib.hid (fun W hW => ⟨(HLI.out W (HOB.out.trans (hW.mono HOB.out.size))).1, range_cells (HXB.out W hW)⟩)
  have HWB := Lib.hid hwB
  clear hwB
  rw [← HWB.out]
  go_wp2_with fail
  refine lastW_region (S := (fun w' => w'.cell? ⟨w.heap.size, 13, none⟩ = some (.slice (h.A 13) (m) (h.c 13)) ∧ w'.rangeAt (w.heap.size + 2) 0 [.string ti, .string tk, .int .i64 (wrap64 (tn + q)), .int .i64 tu, .int .i64 tb, .int .i64 tf])) (n := 6) (by kernel_rfl) ?_
  have ST5 := HST.out _ (Below.refl wB.heap.size wB).drew
  refine LastW.take (i := 1) (v := .pointer (some ⟨w.heap.size, 13, none⟩)) rfl (by kernel_rfl) (by kernel_rfl) (by kernel_rfl) (by kernel_rfl) (by decide) (fun _ _ _ h => h.elim) (.inl ⟨by kernel_rfl, fun w hw => by clear hw; go_simp⟩) ST5 ?_
  (try simp only [ax])
  refine LastW.take (i := 2) (v := .slice (h.A 13) (m) (h.c 13)) rfl (by kernel_rfl) (by kernel_rfl) (by kernel_rfl) (by kernel_rfl) (by decide) (fun _ _ _ h => h.elim) (.inl ⟨by kernel_rfl, fun w hw => by have hw := hw.1; go_simp⟩) ST5 ?_
  (try simp only [ax])
  refine LastW.take (i := 3) (v := .agg #[.string ti, .string tk, .int .i64 (wrap64 (tn + q)), .int .i64 tu, .int .i64 tb, .int .i64 tf]) rfl (by kernel_rfl) (by kernel_rfl) (by kernel_rfl) (by kernel_rfl) (by decide) (fun _ _ _ h => h.elim) (yieldsIf_load_mid (by kernel_rfl) 75 (.tmp 9) rfl (w.heap.size + 2) 0 rfl [.string ti, .string tk, .int .i64 (wrap64 (tn + q)), .int .i64 tu, .int .i64 tb, .int .i64 tf] _ (fun w h => h.2) huTO rfl HS6L.out) ST5 ?_
  (try simp only [ax])
  refine LastW.one (i := 0) (by kernel_rfl) rfl (fun K hK => ?_)
  go_simp
  refine (tabT_any _).mono ?_
  rintro e w7 ⟨rfl, hb7⟩
  have H7 := Lib.hid ((Below.refl wB.heap.size wB).drew.trans (hb7.mono (Below.refl wB.heap.size wB).drew.size))
  clear hb7
  refine hK.out _ _ (fun _ => HST.out _ H7.out) (fun _ => ?_)
  clear hK K
  (try simp only [ax])
  have H7W := Lib.hid (HOB.out.trans (H7.out.mono HOB.out.size))
  refine LastW.one (i := 4) (by kernel_rfl) rfl (fun K hK => ?_)
  go_simp
  refine (HPU.out _ (HBW.out _ H7W.out).1).mono ?_
  rintro e w8 ⟨A5, n5, p5, hl5, rfl, hown5, hb8⟩
  have H8 := Lib.hid (H7.out.trans (hb8.mono H7.out.size))
  have H8W := Lib.hid (HOB.out.trans (H8.out.mono HOB.out.size))
  have HO5 := Lib.hid hown5
  have HLE := Lib.hid hl5
  clear hb8 hown5 hl5
  refine hK.out _ _ (fun _ => HST.out _ H8.out) (fun _ => ?_)
  clear hK K
  (try simp only [ax])
  refine LastW.take (i := 5) (v := .pointer (some ⟨w.heap.size, 13, none⟩)) rfl (by kernel_rfl) (by kernel_rfl) (by kernel_rfl) (by kernel_rfl) (by decide) (fun _ _ _ h => h.elim) (.inl ⟨by kernel_rfl, fun w hw => by clear hw; go_simp⟩) (HST.out _ H8.out) ?_
  (try simp only [ax])
  refine LastW.one (i := 6) (by kernel_rfl) rfl (fun K hK => ?_)
  have c5 := (HLI.out _ H8W.out).1
  have f5 : w8.frozen? ⟨w.heap.size, 13, none⟩ = false := frozen_of_block (HH.out _ H8W.out)
  have HZ5 := Lib.hid (HZ.out _ H8W.out)
  have HH5 := Lib.hid (HH.out _ H8W.out)
  have HB5 := Lib.hid (HBW.out _ H8W.out)
  go_simp
  refine hK.out _ _ (fun h => absurd rfl h) (fun _ => ?_)
  clear hK K
  (try simp only [ax])
  refine LastW.done (by kernel_rfl) ?_ _
  refine NoPanic.normal ?_
  have H9 : Hid ((w8.setCell ⟨w.heap.size, 13, none⟩ (.slice A5 n5 p5)).heap[w.heap.size]? = some (.cells (h.set 13 A5 n5 p5).cells 37 (0, 0))) := Lib.hid (by rw [block_setCell HH5.out, h.set_cells _ _ _ 13 (by decide)])
  have HZ6 : Hid ((w8.setCell ⟨w.heap.size, 13, none⟩ (.slice A5 n5 p5)).heap[w.heap.size + 1]? = some (.cells Hs.zero 37 (0, 0))) := Lib.hid ((block_setCell_other (by omega) _).trans HZ5.out)
  have HB6 : Hid (Below w.heap.size w (w8.setCell ⟨w.heap.size, 13, none⟩ (.slice A5 n5 p5))) := Lib.hid (HB5.out.1.setCell (Nat.le_refl _) _)
  have HS4 : Hid (w.heap.size + 1 < w7.heap.size) := Lib.hid (by have := (HBW.out _ H7W.out).2; omega)
  have HO6 : Hid ((w8.setCell ⟨w.heap.size, 13, none⟩ (.slice A5 n5 p5)).ownsRow w7.heap.size 75 6 (.slice A5 n5 p5) n5 lx.flatten) := Lib.hid (own_far HO5.out (by have := HS4.out; simp; omega) (Nat.le_refl _))
  generalize w8.setCell ⟨w.heap.size, 13, none⟩ (.slice A5 n5 p5) = w6 at *
  go_wp2_with (first
   | (refine wpList_load_row rfl 37 (.tmp 4) rfl w.heap.size rfl _ _ _ _ H9.out huh rfl (HSH.out _) ?_)
   | (refine wpList_store_row rfl 37 (.tmp 8) (.tmp 40) rfl (w.heap.size + 1) (h.set 13 A5 n5 p5).cells rfl rfl _ _ HZ6.out (HSH.out _) rfl (H1C.out _) ?_)
   | fail)
  exact bodyPost_ret (results_cell_row rfl _ _ (w.heap.size + 1) _ _ _ _ rfl (setRow_heap _ _ _ _ _ _ HZ6.out) huh rfl (HSH.out _)) rfl ⟨setRow_below HB6.out (by omega) _, A5, n5, p5, HLE.out, own_rowed HO6.out HS4.out (by have := HS4.out; omega), rfl⟩
end Go.Proofs.YtgbilfkjfeheaaaGreat
