/-
 CONTRACTS of the reference's Receive. (By wip/tools/gen_jrec.py.)
-/
import Derived.Test.YtgbilfkjfeheaaaGreatJDock
import Derived.Test.YtgbilfkjfeheaaaGreatJAnn
import Derived.Test.YtgbilfkjfeheaaaGreatLRef
import Derived.Test.YtgbilfkjfeheaaaGreatBRef
import Derived.Test.YtgbilfkjfeheaaaGreatQRef
import Derived.Test.YtgbilfkjfeheaaaGreatTFind
import Derived.Test.YtgbilfkjfeheaaaGreatTAdd
import Derived.Test.YtgbilfkjfeheaaaGreatGT
import Derived.Test.YtgbilfkjfeheaaaGreatJCon
import Derived.Deep.CutRange
namespace Go.Proofs.YtgbilfkjfeheaaaGreat
set_option linter.unusedVariables false
open Go.RowKit
open Pl (firstG findG putG It)

theorem baseU_wf (x : It) (s : ByteArray) (n q : Int) (hq : Pl.baseU x s n = q) : -9223372036854775808 ≤ q ∧ q ≤ 9223372036854775807 := by
 rw [← hq]
 unfold Pl.baseU
 split
 · omega
 · split
   · omega
   · rename_i hf h
     have hp : 0 < n * Pl.factorU x s := Int.mul_pos (by omega) (by rcases Pl.factorU_cases x s with h1 | h1 | h1 <;> omega)
     omega
theorem fits_set : ∀ {ks : List CK} {vs : List Value} (i : Nat) (z : Int), Fits ks vs → (ks[i]? = some CK.i ∨ ks.length ≤ i) → Fits ks (vs.set i (.int .i64 z))
 | [], [], _, _, h, _ => h
 | [], _ :: _, _, _, h, _ => h.elim
 | _ :: _, [], _, _, h, _ => h.elim
 | k :: ks, v :: vs, 0, z, h, hk => by
  rcases hk with hk | hk
  · simp only [List.getElem?_cons_zero, Option.some.injEq] at hk
    subst hk
    exact ⟨⟨z, rfl⟩, h.2⟩
  · simp at hk
 | k :: ks, v :: vs, i + 1, z, h, hk => ⟨h.1, fits_set i z h.2 (by simpa using hk)⟩
theorem addN_fits {X : List Value} (h : Fits kNotice X) (k : Nat) (q : Int) : Fits kNotice (addN X k q) := by
 refine fits_set _ _ h ?_
 by_cases hk : k < 8
 · left
   have : ∀ k < 8, kNotice[2 + k * 6 + 2]? = some CK.i := by
    intro k hk
    match k, hk with
    | 0, _ | 1, _ | 2, _ | 3, _ | 4, _ | 5, _ | 6, _ | 7, _ => rfl
   exact this k hk
 · right
   rw [show kNotice.length = 51 from rfl]; omega

set_option maxRecDepth 100000 in
set_option maxHeartbeats 12800000 in
theorem rrecv_any (h : Hs) (L : Nat → List (List Value)) (cn ci cu : ByteArray) (n : Int) (cl cd : ByteArray) (w : World) (hh : HT h L w) (hn4 : h.n 4 ≤ 1000) (hn6 : h.n 6 ≤ 1000) (hn13 : h.n 13 ≤ 1000) (hwn : Wf n) :
 Calls Tryz.prog 21 #[.agg h.cells, .agg #[.string cn, .string ci, .string cu, .int .i64 n, .string cl, .string cd]] w (HouseP (recE L (Cm.mk cn ci cu n cl cd)) (recM L (Cm.mk cn ci cu n cl cd)) h L w) := by
 have HHT := Lib.hid hh
 obtain ⟨X, hX⟩ : ∃ X, gotNotice (L 6) cn = X := ⟨_, rfl⟩
 have HXF : Hid (Fits kNotice X) := Lib.hid (hX ▸ gotNotice_fits (hh 6 (by decide)).2.2.1 cn)
 obtain ⟨il, hil⟩ : ∃ q, (atNotice (L 6) cn).isSome = q := ⟨_, rfl⟩
 obtain ⟨sh, hsh⟩ : ∃ q, nshut X = q := ⟨_, rfl⟩
 obtain ⟨si, hsi⟩ : ∃ z, nsite X = z := ⟨_, rfl⟩
 obtain ⟨ll, hll⟩ : ∃ z, nlines X = z := ⟨_, rfl⟩
 have HLF : Hid (Fits kLine8 ll) := Lib.hid (by rw [← hll]; exact (notice_parts HXF.out).2.2.1)
 obtain ⟨x, hx, hxo⟩ := item_it hh ci
 obtain ⟨ii, hii⟩ : ∃ q, (atItem (L 0) ci).isSome = q := ⟨_, rfl⟩
 obtain ⟨q, hq⟩ : ∃ z, Pl.baseU x cu n = z := ⟨_, rfl⟩
 obtain ⟨be, hbe⟩ : ∃ z, Pl.baseE x cu n = z := ⟨_, rfl⟩
 obtain ⟨fe, hfe⟩ : ∃ z, fitE (L 0) (L 1) (L 4) ci cl q = z := ⟨_, rfl⟩
 obtain ⟨de, hde⟩ : ∃ z, dockE (L 2) (L 3) cd si = z := ⟨_, rfl⟩
 obtain ⟨re, hre⟩ : ∃ z, roomE (L 0) (L 3) (L 4) cd ci q = z := ⟨_, rfl⟩
 obtain ⟨ck, hck⟩ : ∃ z, x.chk = z := ⟨_, rfl⟩
 obtain ⟨pe, hpe⟩ : ∃ z, putE (L 4) (Ky.mk cd ci cl (if ck = true then 2 else 1)) q = z := ⟨_, rfl⟩
 obtain ⟨l4, hl4⟩ : ∃ z, putL (L 4) (Ky.mk cd ci cl (if ck = true then 2 else 1)) q = z := ⟨_, rfl⟩
 obtain ⟨er, her⟩ : ∃ r, recE L (Cm.mk cn ci cu n cl cd) = r := ⟨_, rfl⟩
 obtain ⟨M, hM⟩ : ∃ M, recM L (Cm.mk cn ci cu n cl cd) = M := ⟨_, rfl⟩
 have hrq : recQ L (Cm.mk cn ci cu n cl cd) = q := by unfold recQ; simp only []; rw [hxo, hq]
 have hrk : recK L (Cm.mk cn ci cu n cl cd) = Ky.mk cd ci cl (if ck = true then 2 else 1) := by unfold recK; simp only []; rw [hxo, hck]
 obtain ⟨za, hza⟩ : ∃ z, lineI ll ci = z := ⟨_, rfl⟩
 obtain ⟨k, hk⟩ : ∃ z, za.toNat = z := ⟨_, rfl⟩
 have HA : Hid (er = if il = false then 12 else if sh = true then 13 else if za < 0 ∨ ii = false then 12 else if recB L (Cm.mk cn ci cu n cl cd) X k ≠ 0 then recB L (Cm.mk cn ci cu n cl cd) X k else pe) := Lib.hid (by rw [← her]; unfold recE; simp only []; rw [hX, hil, hsh, hll, hza, hk, hii, hrk, hrq, hpe])
 have HRB : Hid (recB L (Cm.mk cn ci cu n cl cd) X k = if be ≠ 0 then be else if fe ≠ 0 then fe else if wrap64 ((lnAt ll k).asked - (lnAt ll k).got) < q then 29 else if de ≠ 0 then de else re) := Lib.hid (by unfold recB; simp only []; rw [hrq, hxo, hbe, hll, hsi, hfe, hde, hre])
 obtain ⟨l6, hl6⟩ : ∃ z, putG ordNotice (L 6) (addN X k q) = z := ⟨_, rfl⟩
 obtain ⟨t, ht⟩ : ∃ t, tlOf (gotT (L 13) ci cl) = t := ⟨_, rfl⟩
 obtain ⟨l13, hl13⟩ : ∃ z, putG ordL (L 13) (t.add q).cells = z := ⟨_, rfl⟩
 have HM : Hid (∀ j, setE 0 (setE 0 (setE 0 L 4 l4) 6 l6) 13 l13 j = M j) := Lib.hid (fun j => by
  rw [← hM]
  unfold setE recM recN recT
  simp only [if_true]
  rw [hX, hll, hza, hk, hrq, hrk, ht, hl4, hl6, hl13]
  by_cases j4 : j = 4
  · rw [if_pos j4, if_pos j4]; subst j4; rfl
  · rw [if_neg j4, if_neg j4]
    by_cases j6 : j = 6
    · rw [if_pos j6, if_pos j6]; subst j6; rfl
    · rw [if_neg j6, if_neg j6])
 have CF : Hid (∀ W, Below w.heap.size w W → Calls Tryz.prog 26 #[.agg h.cells, .string cn] W fun e w' => e = .returned (.tuple #[.agg X.toArray, .bool il]) ∧ Below W.heap.size W w') := Lib.hid (fun W hW => by have := frNotice (hh.below hW) cn; rw [hX, hil] at this; exact this)
 have CI : Hid (∀ W, Below w.heap.size w W → Calls Tryz.prog 66 #[.agg h.cells, .string ci] W fun e w' => e = .returned (.tuple #[.agg #[.string x.code, .string (x.nm 0), .int .i64 (x.fc 0), .string (x.nm 1), .int .i64 (x.fc 1), .string (x.nm 2), .int .i64 (x.fc 2), .string (x.nm 3), .int .i64 (x.fc 3), .int .i64 x.vol, .int .i64 x.wei, .bool x.lots, .bool x.serial, .bool x.chk], .bool ii]) ∧ Below W.heap.size W w') := Lib.hid (fun W hW => by have := frItem (hh.below hW) ci; rw [hx, hii] at this; exact this)
 have CB : Hid (∀ W, Below w.heap.size w W → Calls Tryz.prog 74 #[.agg #[.string x.code, .string (x.nm 0), .int .i64 (x.fc 0), .string (x.nm 1), .int .i64 (x.fc 1), .string (x.nm 2), .int .i64 (x.fc 2), .string (x.nm 3), .int .i64 (x.fc 3), .int .i64 x.vol, .int .i64 x.wei, .bool x.lots, .bool x.serial, .bool x.chk], .string cu, .int .i64 n] W fun e w' => e = .returned (.tuple #[.int .i64 q, .int .i64 (be : Nat)]) ∧ Below W.heap.size W w') := Lib.hid (fun W hW => by have := rbase_any x cu n W hwn.1 hwn.2; rw [hq, hbe] at this; exact this)
 have hqw : -9223372036854775808 ≤ q ∧ q ≤ 9223372036854775807 := baseU_wf x cu n q hq
 have CL : Hid (∀ W, Below w.heap.size w W → Calls Tryz.prog 75 #[.agg h.cells, .string ci, .string cl, .int .i64 q] W fun e w' => e = .returned (.int .i64 (fe : Nat)) ∧ Below W.heap.size W w') := Lib.hid (fun W hW => by have := rfits_any h L ci cl q W (hh.below hW) hqw; rwa [hfe] at this)
 have CD : Hid (∀ W, Below w.heap.size w W → Calls Tryz.prog 76 #[.agg h.cells, .string cd, .string si] W fun e w' => e = .returned (.int .i64 (de : Nat)) ∧ Below W.heap.size W w') := Lib.hid (fun W hW => by have := rdocks_any h L cd si W (hh.below hW); rwa [hde] at this)
 have CR : Hid (∀ W, Below w.heap.size w W → Calls Tryz.prog 77 #[.agg h.cells, .string cd, .string ci, .int .i64 q] W fun e w' => e = .returned (.int .i64 (re : Nat)) ∧ Below W.heap.size W w') := Lib.hid (fun W hW => by have := rfitsr_any h L cd ci q W (hh.below hW); rwa [hre] at this)
 have hkst : (if ck = true then (2 : Int) else 1) = (if ck = true then 2 else 1) := rfl
 have CP : Hid (∀ W, Below w.heap.size w W → Calls Tryz.prog 78 #[.agg h.cells, .agg #[.string cd, .string ci, .string cl, .int .i64 (if ck = true then 2 else 1)], .int .i64 q] W (PutP 71 6 4 pe l4 h W)) := Lib.hid (fun W hW => by have := rputq h L cd ci cl (if ck = true then 2 else 1) q W (hh.below hW) (by omega); rwa [hpe, hl4] at this)
 have HL4 : Hid (Things (kOf 4) l4 ∧ l4.length ≤ 1000000) := Lib.hid ⟨by rw [← hl4]; exact upQ_things (hh 4 (by decide)).2.2.1 _, by rw [← hl4]; have h1 := upQ_len (L 4) (putX (L 4) (Ky.mk cd ci cl (if ck = true then 2 else 1)) q); have h2 := (hh 4 (by decide)).1; unfold putL; omega⟩
 have HNF : Hid (Fits kNotice (addN X k q)) := Lib.hid (addN_fits HXF.out k q)
 have HL6 : Hid (Things (kOf 6) l6 ∧ l6.length ≤ 1000000) := Lib.hid ⟨by rw [← hl6]; exact Things.put (hh 6 (by decide)).2.2.1 HNF.out, by rw [← hl6, Pl.putG_len]; have h2 := (hh 6 (by decide)).1; split <;> omega⟩
 have HL13 : Hid (Things (kOf 13) l13 ∧ l13.length ≤ 1000000) := Lib.hid ⟨by rw [← hl13]; exact Things.put (hh 13 (by decide)).2.2.1 (Tl.fits _), by rw [← hl13, Pl.putG_len]; have h2 := (hh 13 (by decide)).1; split <;> omega⟩
 have HTT : Hid (gotT (L 13) ci cl = t.cells) := Lib.hid (by rw [← ht]; exact tl_cells (gotT_fits (hh 13 (by decide)).2.2.1 ci cl))
 have CN : Hid (∀ (g : Hs) (G : Nat → List (List Value)) W, HT g G W → G 6 = L 6 → Calls Tryz.prog 47 #[.agg g.cells, .agg (addN X k q).toArray] W fun e w' => Below W.heap.size W w' ∧ ∃ A n c, n = l6.length ∧ w'.ownsRow W.heap.size 42 51 (.slice A n c) n l6.flatten ∧ e = .returned (.agg (g.set 6 A n c).cells)) := Lib.hid (fun g G W hg hG => by rw [← hl6, ← hG]; exact rNotice_any g _ (G 6) W HNF.out (hg 6 (by decide)).1 (by rw [(hg 6 (by decide)).1, hG, ← (hh 6 (by decide)).1]; exact hn6) (hg 6 (by decide)).2.2.1 (hg 6 (by decide)).2.2.2)
 have CT : Hid (∀ (g : Hs) (G : Nat → List (List Value)) W, HT g G W → G 13 = L 13 → Calls Tryz.prog 79 #[.agg g.cells, .agg #[.string t.item, .string t.lot, .int .i64 (wrap64 (t.inn + q)), .int .i64 t.out, .int .i64 t.back, .int .i64 t.fixed]] W fun e w' => Below W.heap.size W w' ∧ ∃ A n c, n = l13.length ∧ w'.ownsRow W.heap.size 75 6 (.slice A n c) n l13.flatten ∧ e = .returned (.agg (g.set 13 A n c).cells)) := Lib.hid (fun g G W hg hG => by rw [← hl13, ← hG]; exact rTotal_any g (t.add q).cells (G 13) W (Tl.fits _) (hg 13 (by decide)).1 (by rw [(hg 13 (by decide)).1, hG, ← (hh 13 (by decide)).1]; exact hn13) (hg 13 (by decide)).2.2.1 (hg 13 (by decide)).2.2.2)
 have CW : Hid (∀ (g : Hs) (G : Nat → List (List Value)) W, HT g G W → G 13 = L 13 → ∃ is : Bool, Calls Tryz.prog 27 #[.agg g.cells, .string ci, .string cl] W fun e w' => e = .returned (.tuple #[.agg #[.string t.item, .string t.lot, .int .i64 t.inn, .int .i64 t.out, .int .i64 t.back, .int .i64 t.fixed], .bool is]) ∧ Below W.heap.size W w') := Lib.hid (fun g G W hg hG => ⟨_, by have := rfindt_any g (G 13) ci cl W (hg 13 (by decide)).1 (hg 13 (by decide)).2.1 (hg 13 (by decide)).2.2.1 (hg 13 (by decide)).2.2.2; rw [hG, HTT.out] at this; exact this⟩)
 have HCK := Lib.hid hck
 have HSHV := Lib.hid hsh
 have HSI := Lib.hid hsi
 have HLV := Lib.hid hll
 have HKZ : Hid (za.toNat = k ∧ lineI ll ci = za) := Lib.hid ⟨hk, hza⟩
 rw [her, hM]
 have HOH : Hid (∀ g, w.heap.size ≤ g → Off g h L) := Lib.hid (fun g hg => hh.offge hg)
 clear her hX hil hsh hsi hll hx hxo hii hq hbe hfe hde hre hck hpe hl4 hrq hrk hza hk hM hl6 ht hl13 hqw hkst
 have HSNO : Hid (∀ y, Fits kNotice y → (Tryz.prog.info? 42).map (·.size) = some y.toArray.size) := Lib.hid (fun y hy => by rw [show (Tryz.prog.info? 42).map (·.size) = some 51 from by kernel_rfl, List.size_toArray, hy.length]; rfl)
 have huNO := Tryz.underlying42
 have HOO : Hid (∀ y, Fits kNotice y → (#[.string ⟨#[]⟩, .string ⟨#[]⟩, .string ⟨#[]⟩, .int .i64 0, .int .i64 0, .int .i64 0, .int .i64 0, .int .i64 0, .string ⟨#[]⟩, .int .i64 0, .int .i64 0, .int .i64 0, .int .i64 0, .int .i64 0, .string ⟨#[]⟩, .int .i64 0, .int .i64 0, .int .i64 0, .int .i64 0, .int .i64 0, .string ⟨#[]⟩, .int .i64 0, .int .i64 0, .int .i64 0, .int .i64 0, .int .i64 0, .string ⟨#[]⟩, .int .i64 0, .int .i64 0, .int .i64 0, .int .i64 0, .int .i64 0, .string ⟨#[]⟩, .int .i64 0, .int .i64 0, .int .i64 0, .int .i64 0, .int .i64 0, .string ⟨#[]⟩, .int .i64 0, .int .i64 0, .int .i64 0, .int .i64 0, .int .i64 0, .string ⟨#[]⟩, .int .i64 0, .int .i64 0, .int .i64 0, .int .i64 0, .int .i64 0, .bool false] : Array Value).size = y.toArray.size) := Lib.hid (fun y hy => by rw [List.size_toArray, List.size_toArray, hy.length]; rfl)
 have HOC : Hid (∀ y, Fits kNotice y → y.toArray.all (·.oneCell') = true) := Lib.hid (fun y hy => all_oneCell_toArray (fits_one hy))
 have huIT := Tryz.underlying87
 have HSIT : Hid ((Tryz.prog.info? 87).map (·.size) = some (#[.string x.code, .string (x.nm 0), .int .i64 (x.fc 0), .string (x.nm 1), .int .i64 (x.fc 1), .string (x.nm 2), .int .i64 (x.fc 2), .string (x.nm 3), .int .i64 (x.fc 3), .int .i64 x.vol, .int .i64 x.wei, .bool x.lots, .bool x.serial, .bool x.chk] : Array Value).size) := Lib.hid (by kernel_rfl)
 have huKY := Tryz.underlying60
 have HSKY : Hid ((Tryz.prog.info? 60).map (·.size) = some 4) := Lib.hid (by kernel_rfl)
 have huTO := Tryz.underlying75
 have HSTO : Hid ((Tryz.prog.info? 75).map (·.size) = some 6) := Lib.hid (by kernel_rfl)
 obtain ⟨W0, hW0⟩ : ∃ W0, W0 = (((w.alloc (.cells h.cells 37)).alloc (.cells #[.string cn, .string ci, .string cu, .int .i64 n, .string cl, .string cd] 57)).alloc (.cells #[.slice none 0 0, .slice none 0 0, .slice none 0 0, .slice none 0 0, .slice none 0 0, .slice none 0 0, .slice none 0 0, .slice none 0 0, .slice none 0 0, .slice none 0 0, .slice none 0 0, .slice none 0 0, .slice none 0 0, .slice none 0 0, .int .i64 0] 37)) := ⟨_, rfl⟩
 have hb0 : Below w.heap.size w W0 := by rw [hW0]; exact (((Below.refl _ _).alloc (Nat.le_refl _) _).alloc (by simp <;> omega) _).alloc (by simp <;> omega) _
 have hs0 : W0.heap.size = w.heap.size + 3 := by rw [hW0]; simp
 have HH : Hid (∀ W, Below W0.heap.size W0 W → W.heap[w.heap.size]? = some (.cells h.cells 37 (0, 0))) := Lib.hid (fun W hW => (hW.block _ (by omega)).trans (by
  rw [hW0]
  have hq := heap_alloc_new w (.cells h.cells 37)
  exact (Below.heap_alloc _ _ _ (by simp <;> omega)).trans ((Below.heap_alloc _ _ _ (by simp <;> omega)).trans ((by simpa using hq)))))
 have HX : Hid (∀ W, Below W0.heap.size W0 W → W.heap[w.heap.size + 1]? = some (.cells #[.string cn, .string ci, .string cu, .int .i64 n, .string cl, .string cd] 57 (0, 0))) := Lib.hid (fun W hW => (hW.block _ (by omega)).trans (by
  rw [hW0]
  have hq := heap_alloc_new (w.alloc (.cells h.cells 37)) (.cells #[.string cn, .string ci, .string cu, .int .i64 n, .string cl, .string cd] 57)
  exact (Below.heap_alloc _ _ _ (by simp <;> omega)).trans ((by simpa using hq))))
 have HZ : Hid (∀ W, Below W0.heap.size W0 W → W.heap[w.heap.size + 2]? = some (.cells Hs.zero 37 (0, 0))) := Lib.hid (fun W hW => (hW.block _ (by omega)).trans (by
  rw [hW0]
  have hq := heap_alloc_new ((w.alloc (.cells h.cells 37)).alloc (.cells #[.string cn, .string ci, .string cu, .int .i64 n, .string cl, .string cd] 57)) (.cells #[.slice none 0 0, .slice none 0 0, .slice none 0 0, .slice none 0 0, .slice none 0 0, .slice none 0 0, .slice none 0 0, .slice none 0 0, .slice none 0 0, .slice none 0 0, .slice none 0 0, .slice none 0 0, .slice none 0 0, .slice none 0 0, .int .i64 0] 37)
  exact (by simpa [Hs.zero] using hq)))
 have HBW : Hid (∀ W, Below W0.heap.size W0 W → Below w.heap.size w W ∧ w.heap.size + 3 ≤ W.heap.size) := Lib.hid (fun W hW => ⟨hb0.trans (hW.mono (by omega)), by have := hW.size; omega⟩)
 have huh := Tryz.underlying37
 have HSH : Hid (∀ a : Hs, (Tryz.prog.info? 37).map (·.size) = some a.cells.size) := Lib.hid (fun a => by kernel_rfl)
 have HSQ : Hid ((Tryz.prog.info? 37).map (·.size) = some Hs.zero.size) := Lib.hid (by kernel_rfl)
 have H1C : Hid (∀ a : Hs, a.cells.all (·.oneCell') = true) := Lib.hid (fun a => by simp [Hs.cells, Value.oneCell'])
 have H1Q : Hid (Hs.zero.all (·.oneCell') = true) := Lib.hid (by simp [Hs.zero, Value.oneCell'])
 have huHX := Tryz.underlying57
 have HSHX : Hid ((Tryz.prog.info? 57).map (·.size) = some 6) := Lib.hid (by kernel_rfl)
 have HCHX : Hid (∀ W, Below W0.heap.size W0 W → W.cell? ⟨w.heap.size + 1, 0, none⟩ = some (.string cn) ∧ W.cell? ⟨w.heap.size + 1, 1, none⟩ = some (.string ci) ∧ W.cell? ⟨w.heap.size + 1, 2, none⟩ = some (.string cu) ∧ W.cell? ⟨w.heap.size + 1, 3, none⟩ = some (.int .i64 n) ∧ W.cell? ⟨w.heap.size + 1, 4, none⟩ = some (.string cl) ∧ W.cell? ⟨w.heap.size + 1, 5, none⟩ = some (.string cd) ∧ w.heap.size + 1 < W.heap.size) := Lib.hid (fun W hW => ⟨by rw [cell_of_block (HX.out W hW)]; rfl, by rw [cell_of_block (HX.out W hW)]; rfl, by rw [cell_of_block (HX.out W hW)]; rfl, by rw [cell_of_block (HX.out W hW)]; rfl, by rw [cell_of_block (HX.out W hW)]; rfl, by rw [cell_of_block (HX.out W hW)]; rfl, by have := hW.size; omega⟩)
 have H0 := Lib.hid (Below.refl W0.heap.size W0)
 clear hb0 hs0 hh hn4 hn6 hn13 hwn
 subst hW0
 go_enter Tryz.func21, Tryz.ntmps21
 obtain ⟨x0, x1, x2, x3, x4, x5, xlt⟩ := HCHX.out _ H0.out
 go_wp2_with (first
  | (refine wpList_load_row rfl 37 (.tmp 2) rfl w.heap.size rfl _ _ _ _ (HH.out _ H0.out) huh rfl (HSH.out _) ?_)
  | fail)
 refine (CF.out _ (HBW.out _ H0.out).1).mono ?_
 rintro e w1 ⟨rfl, hb9⟩
 have HPH1 := Lib.hid (H0.out.trans (hb9.mono H0.out.size))
 clear hb9
 have HBXH1 : Hid ((w1.alloc (.cells #[.string ⟨#[]⟩, .string ⟨#[]⟩, .string ⟨#[]⟩, .int .i64 0, .int .i64 0, .int .i64 0, .int .i64 0, .int .i64 0, .string ⟨#[]⟩, .int .i64 0, .int .i64 0, .int .i64 0, .int .i64 0, .int .i64 0, .string ⟨#[]⟩, .int .i64 0, .int .i64 0, .int .i64 0, .int .i64 0, .int .i64 0, .string ⟨#[]⟩, .int .i64 0, .int .i64 0, .int .i64 0, .int .i64 0, .int .i64 0, .string ⟨#[]⟩, .int .i64 0, .int .i64 0, .int .i64 0, .int .i64 0, .int .i64 0, .string ⟨#[]⟩, .int .i64 0, .int .i64 0, .int .i64 0, .int .i64 0, .int .i64 0, .string ⟨#[]⟩, .int .i64 0, .int .i64 0, .int .i64 0, .int .i64 0, .int .i64 0, .string ⟨#[]⟩, .int .i64 0, .int .i64 0, .int .i64 0, .int .i64 0, .int .i64 0, .bool false] 42)).heap[w1.heap.size]? = some (.cells #[.string ⟨#[]⟩, .string ⟨#[]⟩, .string ⟨#[]⟩, .int .i64 0, .int .i64 0, .int .i64 0, .int .i64 0, .int .i64 0, .string ⟨#[]⟩, .int .i64 0, .int .i64 0, .int .i64 0, .int .i64 0, .int .i64 0, .string ⟨#[]⟩, .int .i64 0, .int .i64 0, .int .i64 0, .int .i64 0, .int .i64 0, .string ⟨#[]⟩, .int .i64 0, .int .i64 0, .int .i64 0, .int .i64 0, .int .i64 0, .string ⟨#[]⟩, .int .i64 0, .int .i64 0, .int .i64 0, .int .i64 0, .int .i64 0, .string ⟨#[]⟩, .int .i64 0, .int .i64 0, .int .i64 0, .int .i64 0, .int .i64 0, .string ⟨#[]⟩, .int .i64 0, .int .i64 0, .int .i64 0, .int .i64 0, .int .i64 0, .string ⟨#[]⟩, .int .i64 0, .int .i64 0, .int .i64 0, .int .i64 0, .int .i64 0, .bool false] 42 (0, 0))) := Lib.hid (heap_alloc_new _ _)
 obtain ⟨w1b, hw1b⟩ : ∃ W, W = (w1.alloc (.cells #[.string ⟨#[]⟩, .string ⟨#[]⟩, .string ⟨#[]⟩, .int .i64 0, .int .i64 0, .int .i64 0, .int .i64 0, .int .i64 0, .string ⟨#[]⟩, .int .i64 0, .int .i64 0, .int .i64 0, .int .i64 0, .int .i64 0, .string ⟨#[]⟩, .int .i64 0, .int .i64 0, .int .i64 0, .int .i64 0, .int .i64 0, .string ⟨#[]⟩, .int .i64 0, .int .i64 0, .int .i64 0, .int .i64 0, .int .i64 0, .string ⟨#[]⟩, .int .i64 0, .int .i64 0, .int .i64 0, .int .i64 0, .int .i64 0, .string ⟨#[]⟩, .int .i64 0, .int .i64 0, .int .i64 0, .int .i64 0, .int .i64 0, .string ⟨#[]⟩, .int .i64 0, .int .i64 0, .int .i64 0, .int .i64 0, .int .i64 0, .string ⟨#[]⟩, .int .i64 0, .int .i64 0, .int .i64 0, .int .i64 0, .int .i64 0, .bool false] 42)).setRow w1.heap.size X.toArray := ⟨_, rfl⟩
 have H1 : Hid (Below (((w.alloc (.cells h.cells 37)).alloc (.cells #[.string cn, .string ci, .string cu, .int .i64 n, .string cl, .string cd] 57)).alloc (.cells #[.slice none 0 0, .slice none 0 0, .slice none 0 0, .slice none 0 0, .slice none 0 0, .slice none 0 0, .slice none 0 0, .slice none 0 0, .slice none 0 0, .slice none 0 0, .slice none 0 0, .slice none 0 0, .slice none 0 0, .slice none 0 0, .int .i64 0] 37)).heap.size (((w.alloc (.cells h.cells 37)).alloc (.cells #[.string cn, .string ci, .string cu, .int .i64 n, .string cl, .string cd] 57)).alloc (.cells #[.slice none 0 0, .slice none 0 0, .slice none 0 0, .slice none 0 0, .slice none 0 0, .slice none 0 0, .slice none 0 0, .slice none 0 0, .slice none 0 0, .slice none 0 0, .slice none 0 0, .slice none 0 0, .slice none 0 0, .slice none 0 0, .int .i64 0] 37)) w1b) := Lib.hid (by rw [hw1b]; exact setRow_below (HPH1.out.alloc HPH1.out.size _) HPH1.out.size _)
 have HRH1 : Hid (w1b.heap[w1.heap.size]? = some (.cells X.toArray 42 (0, 0))) := Lib.hid (by rw [hw1b]; exact setRow_heap _ _ _ _ _ _ HBXH1.out)
 have HWH1 := Lib.hid hw1b
 clear hw1b
 clear x0 x1 x2 x3 x4 x5 xlt
 have HN1 : Hid (∀ W, Below w1b.heap.size w1b W → W.heap[w1.heap.size]? = some (.cells X.toArray 42 (0, 0))) := Lib.hid (fun W hW => (hW.block _ (lt_of_block HRH1.out)).trans HRH1.out)
 have HNL : Hid (∀ W, Below w1b.heap.size w1b W → W.cell? ⟨w1.heap.size, 1, none⟩ = some (.string si) ∧ W.rangeAt w1.heap.size 2 ll ∧ W.cell? ⟨w1.heap.size, 50, none⟩ = some (.bool sh) ∧ w1.heap.size < W.heap.size) := Lib.hid (fun W hW => by have := notice_box (HN1.out W hW) HXF.out; rw [HSI.out, HLV.out, HSHV.out] at this; exact ⟨this.2.1, this.2.2.1, this.2.2.2.1, this.2.2.2.2⟩)
 obtain ⟨_, _, c50, clt⟩ := HNL.out _ (Below.refl _ _)
 cases il with
 | false =>
  have HE : Hid (er = 12) := Lib.hid (by rw [HA.out]; rfl)
  go_wp2_with (first
   | (refine wpList_store_row rfl 42 (.tmp 6) (.tmp 24) rfl w1.heap.size X.toArray rfl rfl _ _ HBXH1.out (HSNO.out _ HXF.out) (HOO.out _ HXF.out) (HOC.out _ HXF.out) ?_; rw [← HWH1.out])
   | (refine wpList_store_row rfl 37 (.tmp 4) (.tmp 28) rfl (w.heap.size + 2) Hs.zero rfl rfl _ _ (HZ.out _ H1.out) HSQ.out rfl H1Q.out ?_)
   | fail)
  exact bodyPost_ret (results_row_tmp rfl _ _ (w.heap.size + 2) _ _ _ _ rfl (setRow_heap _ _ _ _ _ _ (HZ.out _ H1.out)) huh rfl HSQ.out) rfl (by
   have hne : er ≠ 0 := by rw [HE.out]; decide
   rw [HE.out] at hne ⊢
   exact HouseP.bad hne (setRow_below (HBW.out _ H1.out).1 (show w.heap.size ≤ w.heap.size + 2 by omega) Hs.zero))
 | true =>
  cases sh with
  | true =>
   have HE : Hid (er = 13) := Lib.hid (by rw [HA.out]; rfl)
   go_wp2_with (first
    | (refine wpList_store_row rfl 42 (.tmp 6) (.tmp 24) rfl w1.heap.size X.toArray rfl rfl _ _ HBXH1.out (HSNO.out _ HXF.out) (HOO.out _ HXF.out) (HOC.out _ HXF.out) ?_; rw [← HWH1.out])
    | (refine wpList_store_row rfl 37 (.tmp 4) (.tmp 31) rfl (w.heap.size + 2) Hs.zero rfl rfl _ _ (HZ.out _ H1.out) HSQ.out rfl H1Q.out ?_)
    | fail)
   exact bodyPost_ret (results_row_tmp rfl _ _ (w.heap.size + 2) _ _ _ _ rfl (setRow_heap _ _ _ _ _ _ (HZ.out _ H1.out)) huh rfl HSQ.out) rfl (by
    have hne : er ≠ 0 := by rw [HE.out]; decide
    rw [HE.out] at hne ⊢
    exact HouseP.bad hne (setRow_below (HBW.out _ H1.out).1 (show w.heap.size ≤ w.heap.size + 2 by omega) Hs.zero))
  | false =>
   have HA2 : Hid (er = if za < 0 ∨ ii = false then 12 else if recB L (Cm.mk cn ci cu n cl cd) X k ≠ 0 then recB L (Cm.mk cn ci cu n cl cd) X k else pe) := Lib.hid (by rw [HA.out]; rfl)
   go_wp2_with (first
    | (refine wpList_store_row rfl 42 (.tmp 6) (.tmp 24) rfl w1.heap.size X.toArray rfl rfl _ _ HBXH1.out (HSNO.out _ HXF.out) (HOO.out _ HXF.out) (HOC.out _ HXF.out) ?_; rw [← HWH1.out])
    | fail)
   clear c50 clt
   go_loopw [8, 9] (fun a i wx => ∃ W : World, W = wx ∧ ∃ d : Nat, d ≤ 8 ∧ a = .int .i64 (downI (forB ll ci) d) ∧ i = .int .i64 (7 - (d : Int)) ∧ Hid (Below w1b.heap.size w1b wx)) (fun _ i _ => (intOf i + 1).toNat)
   case atStart => exact ⟨_, rfl, 0, by omega, rfl, rfl, Lib.hid (Below.refl _ _)⟩
   case round =>
    obtain ⟨wx, rfl, d, hd, rfl, rfl, hx⟩ := hrel
    have HWX := Lib.hid (H1.out.trans (hx.out.mono H1.out.size))
    by_cases hlt : d < 8
    · obtain ⟨j, hj⟩ : ∃ j : Nat, 7 - d = j := ⟨_, rfl⟩
      have hji : 7 - (d : Int) = (j : Int) := by omega
      have hj8 : j < 8 := by omega
      obtain ⟨zb, hzb⟩ : ∃ z, downI (forB ll ci) d = z := ⟨_, rfl⟩
      have hdn : downI (forB ll ci) (d + 1) = if forB ll ci j = true then (j : Int) else zb := by show (if forB ll ci (7 - d) = true then ((7 - d : Nat) : Int) else downI (forB ll ci) d) = _; rw [hj, hzb]
      have r1 := line_at HLF.out (HNL.out _ hx.out).2.1 hj8
      have clt := (HNL.out _ hx.out).2.2.2
      obtain ⟨yi, hyi⟩ : ∃ z, (lnAt ll j).item = z := ⟨_, rfl⟩
      have hfb : forB ll ci j = (!(emp yi) && Pl.eqv yi ci) := by unfold forB; rw [hyi]
      rw [hfb] at hdn
      have HDN := Lib.hid hdn
      have HJD : Hid (7 - d = j ∧ d < 8) := Lib.hid ⟨hj, hlt⟩
      rw [hzb, hji]
      have z0 : wx.cell? ⟨w1.heap.size, 2 + j * 6, none⟩ = some (.string yi) := by have := r1 0 (.string (lnAt ll j).item) rfl; rw [hyi] at this; simpa using this
      have i1 : (0 : Int) ≤ (j : Int) := by omega
      have i2 : (j : Int) < 8 := by omega
      clear hfb hdn hyi r1 hji hj hlt hd hzb
      obtain ⟨x0, x1, x2, x3, x4, x5, xlt⟩ := HCHX.out _ HWX.out
      cases he : emp yi with
      | true =>
       have he' : yi.toList.isEmpty = true := he
       rw [he] at HDN
       clear he
       have HD2 : Hid (downI (forB ll ci) (d + 1) = zb) := Lib.hid (by rw [HDN.out]; rfl)
       go_wp2_with fail
       go_quiet (fail)
       go_wp2_with fail
       go_roundw
       case rel => exact ⟨_, rfl, d + 1, by have := HJD.out.2; omega, by rw [HD2.out], by have := HJD.out; rw [show 7 - ((d + 1 : Nat) : Int) = (j : Int) - 1 from by omega], Lib.hid (below_drewN hx.out _)⟩
       case measure => simp [intOf]
      | false =>
       have he' : yi.toList.isEmpty = false := he
       rw [he] at HDN
       clear he
       cases hf : Pl.eqv yi ci with
       | true =>
        have hf' : (yi.toList == ci.toList) = true := hf
        rw [hf] at HDN
        clear hf
        have HD2 : Hid (downI (forB ll ci) (d + 1) = (j : Int)) := Lib.hid (by rw [HDN.out]; rfl)
        go_wp2_with fail
        go_quiet (fail)
        go_wp2_with fail
        go_roundw
        case rel => exact ⟨_, rfl, d + 1, by have := HJD.out.2; omega, by rw [HD2.out], by have := HJD.out; rw [show 7 - ((d + 1 : Nat) : Int) = (j : Int) - 1 from by omega], Lib.hid (below_drewN hx.out _)⟩
        case measure => simp [intOf]
       | false =>
        have hf' : (yi.toList == ci.toList) = false := hf
        rw [hf] at HDN
        clear hf
        have HD2 : Hid (downI (forB ll ci) (d + 1) = zb) := Lib.hid (by rw [HDN.out]; rfl)
        go_wp2_with fail
        go_quiet (fail)
        go_wp2_with fail
        go_roundw
        case rel => exact ⟨_, rfl, d + 1, by have := HJD.out.2; omega, by rw [HD2.out], by have := HJD.out; rw [show 7 - ((d + 1 : Nat) : Int) = (j : Int) - 1 from by omega], Lib.hid (below_drewN hx.out _)⟩
        case measure => simp [intOf]
    · have hd8 : d = 8 := by omega
      subst hd8
      have h7 : 7 - ((8 : Nat) : Int) = -1 := by decide
      rw [h7]
      have hzz : downI (forB ll ci) 8 = za := HKZ.out.2
      rw [hzz]
      have hcs := downI_cases (forB ll ci) 8 (Nat.le_refl _)
      rw [hzz] at hcs
      clear hzz h7
      rcases hcs with hm | ⟨j, hj8, _, hm, _⟩
      · subst hm
        have HE : Hid (er = 12) := Lib.hid (by rw [HA2.out, if_pos (.inl (by decide))])
        obtain ⟨x0, x1, x2, x3, x4, x5, xlt⟩ := HCHX.out _ HWX.out
        go_wp2_with (first
         | (refine wpList_load_row rfl 37 (.tmp 2) rfl w.heap.size rfl _ _ _ _ (HH.out _ HWX.out) huh rfl (HSH.out _) ?_)
         | fail)
        refine (CI.out _ (HBW.out _ HWX.out).1).mono ?_
        rintro e w2 ⟨rfl, hb2⟩
        have H2 := Lib.hid (HWX.out.trans (hb2.mono HWX.out.size))
        have HX2 := Lib.hid (hx.out.trans (hb2.mono hx.out.size))
        clear hb2
        clear x0 x1 x2 x3 x4 x5 xlt
        have H3 := Lib.hid (H2.out.alloc H2.out.size (.cells #[.string x.code, .string (x.nm 0), .int .i64 (x.fc 0), .string (x.nm 1), .int .i64 (x.fc 1), .string (x.nm 2), .int .i64 (x.fc 2), .string (x.nm 3), .int .i64 (x.fc 3), .int .i64 x.vol, .int .i64 x.wei, .bool x.lots, .bool x.serial, .bool x.chk] 87))
        go_wp2_with (first
         | (refine wpList_store_row rfl 37 (.tmp 4) (.tmp 66) rfl (w.heap.size + 2) Hs.zero rfl rfl _ _ (HZ.out _ H3.out) HSQ.out rfl H1Q.out ?_)
         | fail)
        exact bodyPost_ret (results_row_tmp rfl _ _ (w.heap.size + 2) _ _ _ _ rfl (setRow_heap _ _ _ _ _ _ (HZ.out _ H3.out)) huh rfl HSQ.out) rfl (by
         have hne : er ≠ 0 := by rw [HE.out]; decide
         rw [HE.out] at hne ⊢
         exact HouseP.bad hne (setRow_below (HBW.out _ H3.out).1 (show w.heap.size ≤ w.heap.size + 2 by omega) Hs.zero))
      · subst hm
        have hkj : k = j := by rw [← HKZ.out.1]; rfl
        have i1 : (0 : Int) ≤ (j : Int) := by omega
        have i2 : (j : Int) < 8 := by omega
        have HKJ := Lib.hid hkj
        have HJ8 := Lib.hid hj8
        clear hkj
        obtain ⟨x0, x1, x2, x3, x4, x5, xlt⟩ := HCHX.out _ HWX.out
        go_wp2_with (first
         | (refine wpList_load_row rfl 37 (.tmp 2) rfl w.heap.size rfl _ _ _ _ (HH.out _ HWX.out) huh rfl (HSH.out _) ?_)
         | fail)
        refine (CI.out _ (HBW.out _ HWX.out).1).mono ?_
        rintro e w2 ⟨rfl, hb2⟩
        have H2 := Lib.hid (HWX.out.trans (hb2.mono HWX.out.size))
        have HX2 := Lib.hid (hx.out.trans (hb2.mono hx.out.size))
        clear hb2
        clear x0 x1 x2 x3 x4 x5 xlt
        have H3 := Lib.hid (H2.out.alloc H2.out.size (.cells #[.string x.code, .string (x.nm 0), .int .i64 (x.fc 0), .string (x.nm 1), .int .i64 (x.fc 1), .string (x.nm 2), .int .i64 (x.fc 2), .string (x.nm 3), .int .i64 (x.fc 3), .int .i64 x.vol, .int .i64 x.wei, .bool x.lots, .bool x.serial, .bool x.chk] 87))
        cases ii with
        | false =>
         have HE : Hid (er = 12) := Lib.hid (by rw [HA2.out, if_pos (.inr rfl)])
         have i0 : ((j : Int) < 0) = False := by simp
         go_wp2_with (first
          | (refine wpList_store_row rfl 37 (.tmp 4) (.tmp 66) rfl (w.heap.size + 2) Hs.zero rfl rfl _ _ (HZ.out _ H3.out) HSQ.out rfl H1Q.out ?_)
          | fail)
         exact bodyPost_ret (results_row_tmp rfl _ _ (w.heap.size + 2) _ _ _ _ rfl (setRow_heap _ _ _ _ _ _ (HZ.out _ H3.out)) huh rfl HSQ.out) rfl (by
          have hne : er ≠ 0 := by rw [HE.out]; decide
          rw [HE.out] at hne ⊢
          exact HouseP.bad hne (setRow_below (HBW.out _ H3.out).1 (show w.heap.size ≤ w.heap.size + 2 by omega) Hs.zero))
        | true =>
         have HA3 : Hid (er = if recB L (Cm.mk cn ci cu n cl cd) X k ≠ 0 then recB L (Cm.mk cn ci cu n cl cd) X k else pe) := Lib.hid (by rw [HA2.out, if_neg (by simp)])
         obtain ⟨w3, hw3⟩ : ∃ W, W = w2.alloc (.cells #[.string x.code, .string (x.nm 0), .int .i64 (x.fc 0), .string (x.nm 1), .int .i64 (x.fc 1), .string (x.nm 2), .int .i64 (x.fc 2), .string (x.nm 3), .int .i64 (x.fc 3), .int .i64 x.vol, .int .i64 x.wei, .bool x.lots, .bool x.serial, .bool x.chk] 87) := ⟨_, rfl⟩
         rw [← hw3] at H3
         have HI3 : Hid (∀ W, Below w3.heap.size w3 W → W.heap[w2.heap.size]? = some (.cells #[.string x.code, .string (x.nm 0), .int .i64 (x.fc 0), .string (x.nm 1), .int .i64 (x.fc 1), .string (x.nm 2), .int .i64 (x.fc 2), .string (x.nm 3), .int .i64 (x.fc 3), .int .i64 x.vol, .int .i64 x.wei, .bool x.lots, .bool x.serial, .bool x.chk] 87 (0, 0))) := Lib.hid (fun W hW => (hW.block _ (by rw [hw3]; simp)).trans (by rw [hw3]; exact heap_alloc_new _ _))
         have HX3 : Hid (Below w1b.heap.size w1b w3) := Lib.hid (by rw [hw3]; exact HX2.out.alloc HX2.out.size _)
         have HW3 := Lib.hid hw3
         clear hw3
         go_upto_region 15 with fail
         rw [← HW3.out]
         obtain ⟨x0, x1, x2, x3, x4, x5, xlt⟩ := HCHX.out _ H3.out
         go_wp2_with (first
          | (refine wpList_load_row rfl 87 (.tmp 10) rfl w2.heap.size rfl _ _ _ _ (HI3.out _ (Below.refl _ _)) huIT rfl HSIT.out ?_)
          | fail)
         refine (CB.out _ (HBW.out _ H3.out).1).mono ?_
         rintro e w4 ⟨rfl, hb9⟩
         have H4 := Lib.hid (H3.out.trans (hb9.mono H3.out.size))
         have IH4 := Lib.hid ((Below.refl w3.heap.size w3).trans (hb9.mono (Below.refl w3.heap.size w3).size))
         clear hb9
         clear x0 x1 x2 x3 x4 x5 xlt
         by_cases hk0 : be = 0
         · subst hk0
           obtain ⟨x0, x1, x2, x3, x4, x5, xlt⟩ := HCHX.out _ H4.out
           go_wp2_with (first
            | (refine wpList_load_row rfl 37 (.tmp 2) rfl w.heap.size rfl _ _ _ _ (HH.out _ H4.out) huh rfl (HSH.out _) ?_)
            | fail)
           refine (CL.out _ (HBW.out _ H4.out).1).mono ?_
           rintro e w5 ⟨rfl, hb9⟩
           have H5 := Lib.hid (H4.out.trans (hb9.mono H4.out.size))
           have IH5 := Lib.hid (IH4.out.trans (hb9.mono IH4.out.size))
           clear hb9
           clear x0 x1 x2 x3 x4 x5 xlt
           by_cases hk0 : fe = 0
           · subst hk0
             have HN5 := Lib.hid (HX3.out.trans (IH5.out.mono HX3.out.size))
             have r1 := line_at HLF.out (HNL.out _ HN5.out).2.1 HJ8.out
             have clt := (HNL.out _ HN5.out).2.2.2
             obtain ⟨⟨yi, ya, yg, yb, yp, yo⟩, hy⟩ : ∃ z, lnAt ll j = z := ⟨_, rfl⟩
             rw [hy] at r1
             have z1 : w5.cell? ⟨w1.heap.size, 2 + j * 6 + 1, none⟩ = some (.int .i64 ya) := r1 1 (.int .i64 ya) rfl
             have z2 : w5.cell? ⟨w1.heap.size, 2 + j * 6 + 2, none⟩ = some (.int .i64 yg) := r1 2 (.int .i64 yg) rfl
             have HYJ : Hid (lnAt ll k = Ln.mk yi ya yg yb yp yo) := Lib.hid (by rw [HKJ.out]; exact hy)
             clear r1 hy
             have HRB2 : Hid (recB L (Cm.mk cn ci cu n cl cd) X k = if wrap64 (ya - yg) < q then 29 else if de ≠ 0 then de else re) := Lib.hid (by rw [HRB.out, HYJ.out]; rfl)
             by_cases ov : wrap64 (ya - yg) < q
             ·
              have HE : Hid (er = 29) := Lib.hid (by
               have hb : recB L (Cm.mk cn ci cu n cl cd) X k = 29 := by rw [HRB2.out, if_pos ov]
               rw [HA3.out, if_pos (by rw [hb]; decide), hb])
              go_wp2_with fail
              go_quiet (fail)
              have H6 := Lib.hid (below_drewN H5.out nq)
              go_wp2_with (first
               | (refine wpList_store_row rfl 37 (.tmp 4) (.tmp 121) rfl (w.heap.size + 2) Hs.zero rfl rfl _ _ (HZ.out _ H6.out) HSQ.out rfl H1Q.out ?_)
               | fail)
              exact bodyPost_ret (results_row_tmp rfl _ _ (w.heap.size + 2) _ _ _ _ rfl (setRow_heap _ _ _ _ _ _ (HZ.out _ H6.out)) huh rfl HSQ.out) rfl (by
               have hne : er ≠ 0 := by rw [HE.out]; decide
               rw [HE.out] at hne ⊢
               exact HouseP.bad hne (setRow_below (HBW.out _ H6.out).1 (show w.heap.size ≤ w.heap.size + 2 by omega) Hs.zero))
             · have HRB3 : Hid (recB L (Cm.mk cn ci cu n cl cd) X k = if de ≠ 0 then de else re) := Lib.hid (by rw [HRB2.out, if_neg ov])
               have ov2 : q ≤ wrap64 (ya - yg) := Int.not_lt.1 ov
               have ov3 : decide (wrap64 (ya - yg) < q) = false := decide_eq_false ov
               go_wp2_with fail
               go_quiet (fail)
               have H6 := Lib.hid (below_drewN H5.out nq)
               have IH6 := Lib.hid (below_drewN IH5.out nq)
               clear z1 z2 clt ov ov2 ov3
               obtain ⟨w6, hw6⟩ : ∃ W, W = w5.drewN nq := ⟨_, rfl⟩
               rw [← hw6] at H6 IH6 ⊢
               clear hw6
               have HN6 := Lib.hid (HX3.out.trans (IH6.out.mono HX3.out.size))
               obtain ⟨c1, _, _, clt⟩ := HNL.out _ HN6.out
               obtain ⟨x0, x1, x2, x3, x4, x5, xlt⟩ := HCHX.out _ H6.out
               go_wp2_with (first
                | (refine wpList_load_row rfl 37 (.tmp 2) rfl w.heap.size rfl _ _ _ _ (HH.out _ H6.out) huh rfl (HSH.out _) ?_)
                | fail)
               refine (CD.out _ (HBW.out _ H6.out).1).mono ?_
               rintro e w7 ⟨rfl, hb9⟩
               have H7 := Lib.hid (H6.out.trans (hb9.mono H6.out.size))
               have IH7 := Lib.hid (IH6.out.trans (hb9.mono IH6.out.size))
               clear hb9
               clear x0 x1 x2 x3 x4 x5 xlt
               clear c1 clt
               by_cases hk0 : de = 0
               · subst hk0
                 obtain ⟨x0, x1, x2, x3, x4, x5, xlt⟩ := HCHX.out _ H7.out
                 go_wp2_with (first
                  | (refine wpList_load_row rfl 37 (.tmp 2) rfl w.heap.size rfl _ _ _ _ (HH.out _ H7.out) huh rfl (HSH.out _) ?_)
                  | fail)
                 refine (CR.out _ (HBW.out _ H7.out).1).mono ?_
                 rintro e w8 ⟨rfl, hb9⟩
                 have H8 := Lib.hid (H7.out.trans (hb9.mono H7.out.size))
                 have IH8 := Lib.hid (IH7.out.trans (hb9.mono IH7.out.size))
                 clear hb9
                 clear x0 x1 x2 x3 x4 x5 xlt
                 by_cases hk0 : re = 0
                 · subst hk0
                   have HA4 : Hid (er = pe) := Lib.hid (by
                    have hb : recB L (Cm.mk cn ci cu n cl cd) X k = 0 := by rw [HRB3.out]; rfl
                    rw [HA3.out, if_neg (by rw [hb]; simp)])
                   have hi8 := HI3.out _ IH8.out
                   have c13 : w8.cell? ⟨w2.heap.size, 13, none⟩ = some (.bool ck) := by rw [cell_of_block hi8, ← HCK.out]; rfl
                   have cil : w2.heap.size < w8.heap.size := lt_of_block hi8
                   clear hi8
                   have HAN : Hid (addN X k q = X.set (2 + j * 6 + 2) (.int .i64 (wrap64 (yg + q)))) := Lib.hid (by unfold addN; rw [HLV.out, HYJ.out, HKJ.out])
                   cases ck with
                   | true =>
                    have CP2 : Hid (∀ W, Below w.heap.size w W → Calls Tryz.prog 78 #[.agg h.cells, .agg #[.string cd, .string ci, .string cl, .int .i64 2], .int .i64 q] W (PutP 71 6 4 pe l4 h W)) := Lib.hid CP.out
                    obtain ⟨w9, hw9⟩ : ∃ W, W = w8.alloc (.cells #[.string cd, .string ci, .string cl, .int .i64 2] 60) := ⟨_, rfl⟩
                    have hb9 : Below w8.heap.size w8 w9 := by rw [hw9]; exact (Below.refl _ _).alloc (Nat.le_refl _) _
                    have H9 := Lib.hid (H8.out.trans (hb9.mono H8.out.size))
                    have IH9 := Lib.hid (IH8.out.trans (hb9.mono IH8.out.size))
                    have HKB : Hid (w9.heap[w8.heap.size]? = some (.cells #[.string cd, .string ci, .string cl, .int .i64 2] 60 (0, 0))) := Lib.hid (by rw [hw9]; exact heap_alloc_new _ _)
                    have HW9 := Lib.hid hw9
                    clear hw9 hb9
                    obtain ⟨x0, x1, x2, x3, x4, x5, xlt⟩ := HCHX.out _ H8.out
                    go_upto_region 29 with fail
                    rw [← HW9.out]
                    clear x0 x1 x2 x3 x4 x5 xlt
                    clear c13 cil
                    go_wp2_with (first
                     | (refine wpList_load_row rfl 37 (.tmp 2) rfl w.heap.size rfl _ _ _ _ (HH.out _ H9.out) huh rfl (HSH.out _) ?_)
                     | (refine wpList_load_row rfl 60 (.tmp 14) rfl w8.heap.size rfl _ _ _ _ HKB.out huKY rfl HSKY.out ?_)
                     | fail)
                    refine (CP2.out _ (HBW.out _ H9.out).1).mono ?_
                    intro e w10 hpp
                    obtain ⟨hb10, g, rfl, hk10⟩ := hpp.k
                    have H10 := Lib.hid (H9.out.trans (hb10.mono H9.out.size))
                    have IH10 := Lib.hid (IH9.out.trans (hb10.mono IH9.out.size))
                    have HGT := Lib.hid (hk10.htl (by decide) HL4.out.1 HL4.out.2 (HHT.out.below (HBW.out _ H10.out).1))
                    have HGK := Lib.hid hk10
                    have HS910 := Lib.hid hb10.size
                    have HGB : Hid (w.heap.size + 3 ≤ w9.heap.size ∧ w1.heap.size < w9.heap.size) := Lib.hid ⟨(HBW.out _ H9.out).2, Nat.lt_of_lt_of_le (lt_of_block (HN1.out _ (Below.refl _ _))) (HX3.out.trans (IH9.out.mono HX3.out.size)).size⟩
                    clear hb10 hk10 hpp
                    have HBG : Hid ((w10.alloc (.cells #[.slice none 0 0, .slice none 0 0, .slice none 0 0, .slice none 0 0, .slice none 0 0, .slice none 0 0, .slice none 0 0, .slice none 0 0, .slice none 0 0, .slice none 0 0, .slice none 0 0, .slice none 0 0, .slice none 0 0, .slice none 0 0, .int .i64 0] 37)).heap[w10.heap.size]? = some (.cells #[.slice none 0 0, .slice none 0 0, .slice none 0 0, .slice none 0 0, .slice none 0 0, .slice none 0 0, .slice none 0 0, .slice none 0 0, .slice none 0 0, .slice none 0 0, .slice none 0 0, .slice none 0 0, .slice none 0 0, .slice none 0 0, .int .i64 0] 37 (0, 0))) := Lib.hid (heap_alloc_new _ _)
                    obtain ⟨w11, hw11⟩ : ∃ W, W = (w10.alloc (.cells #[.slice none 0 0, .slice none 0 0, .slice none 0 0, .slice none 0 0, .slice none 0 0, .slice none 0 0, .slice none 0 0, .slice none 0 0, .slice none 0 0, .slice none 0 0, .slice none 0 0, .slice none 0 0, .slice none 0 0, .slice none 0 0, .int .i64 0] 37)).setRow w10.heap.size g.cells := ⟨_, rfl⟩
                    have hb11 : Below w10.heap.size w10 w11 := by rw [hw11]; exact setRow_below ((Below.refl _ _).alloc (Nat.le_refl _) _) (Nat.le_refl _) _
                    have H11 := Lib.hid (H10.out.trans (hb11.mono H10.out.size))
                    have HG11 : Hid (w11.heap[w10.heap.size]? = some (.cells g.cells 37 (0, 0))) := Lib.hid (by rw [hw11]; exact setRow_heap _ _ _ _ _ _ HBG.out)
                    have HGT11 := Lib.hid (HGT.out.below hb11)
                    have HGF : Hid (Off w10.heap.size g (setE pe L 4 l4)) := Lib.hid (HGT.out.offge (Nat.le_refl _))
                    have HN11 := Lib.hid (HX3.out.trans ((IH10.out.trans (hb11.mono IH10.out.size)).mono HX3.out.size))
                    have HW11 := Lib.hid hw11
                    clear hw11 hb11
                    by_cases hk0 : pe = 0
                    ·
                     have HE : Hid (er = 0) := Lib.hid (by rw [HA4.out]; exact hk0)
                     have HPE := Lib.hid hk0
                     subst hk0
                     have hN := HN1.out _ HN11.out
                     have r1 := line_at HLF.out (HNL.out _ HN11.out).2.1 HJ8.out
                     rw [← HKJ.out, HYJ.out, HKJ.out] at r1
                     have g2 : w11.cell? ⟨w1.heap.size, 2 + j * 6 + 2, none⟩ = some (.int .i64 yg) := r1 2 (.int .i64 yg) rfl
                     have glt : w1.heap.size < w11.heap.size := lt_of_block hN
                     have gfz : w11.frozen? ⟨w1.heap.size, 2 + j * 6 + 2, none⟩ = false := frozen_of_block hN
                     obtain ⟨w12, hw12⟩ : ∃ W, W = w11.setCell ⟨w1.heap.size, 2 + j * 6 + 2, none⟩ (.int .i64 (wrap64 (yg + q))) := ⟨_, rfl⟩
                     have HN12 : Hid (w12.heap[w1.heap.size]? = some (.cells (addN X k q).toArray 42 (0, 0))) := Lib.hid (by rw [hw12, block_setCell hN, HAN.out]; simp)
                     have HG12 : Hid (w12.heap[w10.heap.size]? = some (.cells g.cells 37 (0, 0))) := Lib.hid (by rw [hw12]; exact (block_setCell_other (by have h1 := HGB.out.2; have h2 := HS910.out; omega) _).trans HG11.out)
                     have H12 : Hid (Below _ _ w12) := Lib.hid (by rw [hw12]; exact H11.out.setCell HPH1.out.size _)
                     have HG0 : Hid (Off w1.heap.size g (setE 0 L 4 l4)) := Lib.hid (HGK.out.off HGB.out.2 (HOH.out _ (by have := (HBW.out _ HPH1.out).2; omega)))
                     have HGT12 : Hid (HT g (setE 0 L 4 l4) w12) := Lib.hid (by rw [hw12]; exact HGT11.out.setCellOff HG0.out _)
                     have HW12 := Lib.hid hw12
                     clear hN r1 hw12
                     go_upto_region 33 with (first
                      | (refine wpList_store_row rfl 37 (.tmp 15) (.tmp 138) rfl w10.heap.size g.cells rfl rfl _ _ HBG.out (HSH.out _) rfl (H1C.out _) ?_; rw [← HW11.out])
                      | fail)
                     rw [← HW12.out]
                     clear g2 glt gfz
                     go_wp2_with (first
                      | (refine wpList_load_row rfl 37 (.tmp 15) rfl w10.heap.size rfl _ _ _ _ HG12.out huh rfl (HSH.out _) ?_)
                      | (refine wpList_load_row rfl 42 (.tmp 6) rfl w1.heap.size rfl _ _ _ _ HN12.out huNO rfl (HSNO.out _ HNF.out) ?_)
                      | fail)
                     refine (CN.out g _ _ HGT12.out rfl).mono ?_
                     rintro e w13 ⟨hb13, A6, n6, c6, hl6, ho6, rfl⟩
                     have H13 := Lib.hid (H12.out.trans (hb13.mono H12.out.size))
                     have HK6 : Hid (PutK 42 51 6 0 l6 g (g.set 6 A6 n6 c6) w12.heap.size w13) := Lib.hid (.inr ⟨rfl, A6, n6, c6, hl6, ho6, rfl⟩)
                     obtain ⟨g6, hg6⟩ : ∃ z, g.set 6 A6 n6 c6 = z := ⟨_, rfl⟩
                     rw [hg6] at HK6 ⊢
                     have HT6 := Lib.hid (HK6.out.htl (by decide) HL6.out.1 HL6.out.2 (HGT12.out.below hb13))
                     have HG13 := Lib.hid ((hb13.block _ (lt_of_block HG12.out)).trans HG12.out)
                     have HZ6 : Hid (g6.z = zE 0 h.z) := Lib.hid (by rw [← hg6]; rcases HGK.out with ⟨h1, _⟩ | ⟨_, A, m4, c4, _, _, rfl⟩; exact absurd rfl h1; rfl)
                     have HF6 : Hid (Off w10.heap.size g6 (setE 0 (setE 0 L 4 l4) 6 l6)) := Lib.hid (HK6.out.off (lt_of_block HG12.out) HGF.out)
                     clear hb13 hl6 ho6 hg6
                     obtain ⟨w14, hw14⟩ : ∃ W, W = w13.setRow w10.heap.size g6.cells := ⟨_, rfl⟩
                     have HG14 : Hid (w14.heap[w10.heap.size]? = some (.cells g6.cells 37 (0, 0))) := Lib.hid (by rw [hw14]; exact setRow_heap _ _ _ _ _ _ HG13.out)
                     have H14 : Hid (Below _ _ w14) := Lib.hid (by rw [hw14]; exact setRow_below H13.out H10.out.size _)
                     have HT14 : Hid (HT g6 (setE 0 (setE 0 L 4 l4) 6 l6) w14) := Lib.hid (by rw [hw14]; exact HT6.out.setRowOff HF6.out _)
                     have HW14 := Lib.hid hw14
                     clear hw14
                     go_upto_region 34 with (first
                      | (refine wpList_store_row rfl 37 (.tmp 15) (.tmp 157) rfl w10.heap.size g6.cells rfl rfl _ _ HG13.out (HSH.out _) rfl (H1C.out _) ?_; rw [← HW14.out])
                      | fail)
                     obtain ⟨x0, x1, x2, x3, x4, x5, xlt⟩ := HCHX.out _ H14.out
                     go_wp2_with (first
                      | (refine wpList_load_row rfl 37 (.tmp 15) rfl w10.heap.size rfl _ _ _ _ HG14.out huh rfl (HSH.out _) ?_)
                      | fail)
                     clear x0 x1 x2 x3 x4 x5 xlt
                     obtain ⟨is, hcw⟩ := CW.out g6 _ _ HT14.out rfl
                     refine hcw.mono ?_
                     clear hcw
                     rintro e w15 ⟨rfl, hb15⟩
                     have H15 := Lib.hid (H14.out.trans (hb15.mono H14.out.size))
                     have HT15 := Lib.hid (HT14.out.below hb15)
                     have HG15 := Lib.hid ((hb15.block _ (lt_of_block HG14.out)).trans HG14.out)
                     clear hb15
                     obtain ⟨w16, hw16⟩ : ∃ W, W = w15.alloc (.cells #[.string t.item, .string t.lot, .int .i64 (wrap64 (t.inn + q)), .int .i64 t.out, .int .i64 t.back, .int .i64 t.fixed] 75) := ⟨_, rfl⟩
                     have hb16 : Below w15.heap.size w15 w16 := by rw [hw16]; exact (Below.refl _ _).alloc (Nat.le_refl _) _
                     have H16 := Lib.hid (H15.out.trans (hb16.mono H15.out.size))
                     have HT16 := Lib.hid (HT15.out.below hb16)
                     have HG16 := Lib.hid ((hb16.block _ (lt_of_block HG15.out)).trans HG15.out)
                     have HTB : Hid (w16.heap[w15.heap.size]? = some (.cells #[.string t.item, .string t.lot, .int .i64 (wrap64 (t.inn + q)), .int .i64 t.out, .int .i64 t.back, .int .i64 t.fixed] 75 (0, 0))) := Lib.hid (by rw [hw16]; exact heap_alloc_new _ _)
                     have HW16 := Lib.hid hw16
                     clear hw16 hb16
                     go_upto_region 36 with fail
                     rw [← HW16.out]
                     go_wp2_with (first
                      | (refine wpList_load_row rfl 37 (.tmp 15) rfl w10.heap.size rfl _ _ _ _ HG16.out huh rfl (HSH.out _) ?_)
                      | (refine wpList_load_row rfl 75 (.tmp 17) rfl w15.heap.size rfl _ _ _ _ HTB.out huTO rfl HSTO.out ?_)
                      | fail)
                     refine (CT.out g6 _ _ HT16.out rfl).mono ?_
                     rintro e w17 ⟨hb17, A3, n3, c3, hl3, ho3, rfl⟩
                     have H17 := Lib.hid (H16.out.trans (hb17.mono H16.out.size))
                     have HK3 : Hid (PutK 75 6 13 0 l13 g6 (g6.set 13 A3 n3 c3) w16.heap.size w17) := Lib.hid (.inr ⟨rfl, A3, n3, c3, hl3, ho3, rfl⟩)
                     have hz3 : (g6.set 13 A3 n3 c3).z = g6.z := rfl
                     obtain ⟨g3, hg3⟩ : ∃ z, g6.set 13 A3 n3 c3 = z := ⟨_, rfl⟩
                     rw [hg3] at HK3 hz3 ⊢
                     have HT3 := Lib.hid (HK3.out.htl (by decide) HL13.out.1 HL13.out.2 (HT16.out.below hb17))
                     have HZ3 := Lib.hid hz3
                     clear hb17 hl3 ho3 hg3 hz3
                     go_wp2_with (first
                      | (refine wpList_store_row rfl 37 (.tmp 4) (.tmp 174) rfl (w.heap.size + 2) g3.cells rfl rfl _ _ (HZ.out _ H17.out) (HSH.out _) rfl (H1C.out _) ?_)
                      | fail)
                     have HSZ : Hid (w9.heap.size ≤ w12.heap.size ∧ w9.heap.size ≤ w16.heap.size) := Lib.hid (by
                      have a1 := IH10.out.size
                      have a2 : w10.heap.size ≤ w12.heap.size := Nat.le_of_lt (lt_of_block HG12.out)
                      have a3 : w10.heap.size ≤ w16.heap.size := Nat.le_of_lt (lt_of_block HG16.out)
                      have a4 := HS910.out
                      omega)
                     have hof : ∀ o, Off o h L → o < w9.heap.size → Off o g3 (setE 0 (setE 0 (setE 0 L 4 l4) 6 l6) 13 l13) := fun o ho hl => HK3.out.off (Nat.lt_of_lt_of_le hl HSZ.out.2) (HK6.out.off (Nat.lt_of_lt_of_le hl HSZ.out.1) (HGK.out.off hl ho))
                     have hM2 : setX 0 M = setE 0 (setE 0 (setE 0 L 4 l4) 6 l6) 13 l13 := by rw [setX_ok rfl]; funext i; exact (HM.out i).symm
                     exact bodyPost_ret (results_row_tmp rfl _ _ (w.heap.size + 2) _ _ _ _ rfl (setRow_heap _ _ _ _ _ _ (HZ.out _ H17.out)) huh rfl (HSH.out _)) rfl (by
                      rw [HE.out]
                      refine ⟨setRow_below (HBW.out _ H17.out).1 (show w.heap.size ≤ w.heap.size + 2 by omega) _, g3, rfl, ?_, ?_, fun hc => HK3.out.caps (HK6.out.caps (HGK.out.caps hc)), fun o ho hl => ?_⟩
                      · rw [hM2]; exact HT3.out.setRowOff (hof _ (HOH.out _ (by omega)) (by have := HGB.out.1; omega)) _
                      · rw [HZ3.out]; exact HZ6.out
                      · rw [hM2]; exact hof o ho (by have := HGB.out.1; omega))
                    · have bn : ((pe : Int) != 0) = true := by simpa using hk0
                      have HKL := Lib.hid hk0
                      have HE : Hid (er = pe) := HA4
                      clear hk0
                      go_wp2_with (first
                       | (refine wpList_store_row rfl 37 (.tmp 15) (.tmp 138) rfl w10.heap.size g.cells rfl rfl _ _ HBG.out (HSH.out _) rfl (H1C.out _) ?_; rw [← HW11.out])
                       | (refine wpList_store_row rfl 37 (.tmp 4) (.tmp 142) rfl (w.heap.size + 2) Hs.zero rfl rfl _ _ (HZ.out _ H11.out) HSQ.out rfl H1Q.out ?_)
                       | fail)
                      exact bodyPost_ret (results_row_tmp rfl _ _ (w.heap.size + 2) _ _ _ _ rfl (setRow_heap _ _ _ _ _ _ (HZ.out _ H11.out)) huh rfl HSQ.out) rfl (by
                       have hne : er ≠ 0 := by rw [HE.out]; exact HKL.out
                       rw [HE.out] at hne ⊢
                       exact HouseP.bad hne (setRow_below (HBW.out _ H11.out).1 (show w.heap.size ≤ w.heap.size + 2 by omega) Hs.zero))
                   | false =>
                    have CP2 : Hid (∀ W, Below w.heap.size w W → Calls Tryz.prog 78 #[.agg h.cells, .agg #[.string cd, .string ci, .string cl, .int .i64 1], .int .i64 q] W (PutP 71 6 4 pe l4 h W)) := Lib.hid CP.out
                    obtain ⟨w9, hw9⟩ : ∃ W, W = w8.alloc (.cells #[.string cd, .string ci, .string cl, .int .i64 1] 60) := ⟨_, rfl⟩
                    have hb9 : Below w8.heap.size w8 w9 := by rw [hw9]; exact (Below.refl _ _).alloc (Nat.le_refl _) _
                    have H9 := Lib.hid (H8.out.trans (hb9.mono H8.out.size))
                    have IH9 := Lib.hid (IH8.out.trans (hb9.mono IH8.out.size))
                    have HKB : Hid (w9.heap[w8.heap.size]? = some (.cells #[.string cd, .string ci, .string cl, .int .i64 1] 60 (0, 0))) := Lib.hid (by rw [hw9]; exact heap_alloc_new _ _)
                    have HW9 := Lib.hid hw9
                    clear hw9 hb9
                    obtain ⟨x0, x1, x2, x3, x4, x5, xlt⟩ := HCHX.out _ H8.out
                    go_upto_region 29 with fail
                    rw [← HW9.out]
                    clear x0 x1 x2 x3 x4 x5 xlt
                    clear c13 cil
                    go_wp2_with (first
                     | (refine wpList_load_row rfl 37 (.tmp 2) rfl w.heap.size rfl _ _ _ _ (HH.out _ H9.out) huh rfl (HSH.out _) ?_)
                     | (refine wpList_load_row rfl 60 (.tmp 14) rfl w8.heap.size rfl _ _ _ _ HKB.out huKY rfl HSKY.out ?_)
                     | fail)
                    refine (CP2.out _ (HBW.out _ H9.out).1).mono ?_
                    intro e w10 hpp
                    obtain ⟨hb10, g, rfl, hk10⟩ := hpp.k
                    have H10 := Lib.hid (H9.out.trans (hb10.mono H9.out.size))
                    have IH10 := Lib.hid (IH9.out.trans (hb10.mono IH9.out.size))
                    have HGT := Lib.hid (hk10.htl (by decide) HL4.out.1 HL4.out.2 (HHT.out.below (HBW.out _ H10.out).1))
                    have HGK := Lib.hid hk10
                    have HS910 := Lib.hid hb10.size
                    have HGB : Hid (w.heap.size + 3 ≤ w9.heap.size ∧ w1.heap.size < w9.heap.size) := Lib.hid ⟨(HBW.out _ H9.out).2, Nat.lt_of_lt_of_le (lt_of_block (HN1.out _ (Below.refl _ _))) (HX3.out.trans (IH9.out.mono HX3.out.size)).size⟩
                    clear hb10 hk10 hpp
                    have HBG : Hid ((w10.alloc (.cells #[.slice none 0 0, .slice none 0 0, .slice none 0 0, .slice none 0 0, .slice none 0 0, .slice none 0 0, .slice none 0 0, .slice none 0 0, .slice none 0 0, .slice none 0 0, .slice none 0 0, .slice none 0 0, .slice none 0 0, .slice none 0 0, .int .i64 0] 37)).heap[w10.heap.size]? = some (.cells #[.slice none 0 0, .slice none 0 0, .slice none 0 0, .slice none 0 0, .slice none 0 0, .slice none 0 0, .slice none 0 0, .slice none 0 0, .slice none 0 0, .slice none 0 0, .slice none 0 0, .slice none 0 0, .slice none 0 0, .slice none 0 0, .int .i64 0] 37 (0, 0))) := Lib.hid (heap_alloc_new _ _)
                    obtain ⟨w11, hw11⟩ : ∃ W, W = (w10.alloc (.cells #[.slice none 0 0, .slice none 0 0, .slice none 0 0, .slice none 0 0, .slice none 0 0, .slice none 0 0, .slice none 0 0, .slice none 0 0, .slice none 0 0, .slice none 0 0, .slice none 0 0, .slice none 0 0, .slice none 0 0, .slice none 0 0, .int .i64 0] 37)).setRow w10.heap.size g.cells := ⟨_, rfl⟩
                    have hb11 : Below w10.heap.size w10 w11 := by rw [hw11]; exact setRow_below ((Below.refl _ _).alloc (Nat.le_refl _) _) (Nat.le_refl _) _
                    have H11 := Lib.hid (H10.out.trans (hb11.mono H10.out.size))
                    have HG11 : Hid (w11.heap[w10.heap.size]? = some (.cells g.cells 37 (0, 0))) := Lib.hid (by rw [hw11]; exact setRow_heap _ _ _ _ _ _ HBG.out)
                    have HGT11 := Lib.hid (HGT.out.below hb11)
                    have HGF : Hid (Off w10.heap.size g (setE pe L 4 l4)) := Lib.hid (HGT.out.offge (Nat.le_refl _))
                    have HN11 := Lib.hid (HX3.out.trans ((IH10.out.trans (hb11.mono IH10.out.size)).mono HX3.out.size))
                    have HW11 := Lib.hid hw11
                    clear hw11 hb11
                    by_cases hk0 : pe = 0
                    ·
                     have HE : Hid (er = 0) := Lib.hid (by rw [HA4.out]; exact hk0)
                     have HPE := Lib.hid hk0
                     subst hk0
                     have hN := HN1.out _ HN11.out
                     have r1 := line_at HLF.out (HNL.out _ HN11.out).2.1 HJ8.out
                     rw [← HKJ.out, HYJ.out, HKJ.out] at r1
                     have g2 : w11.cell? ⟨w1.heap.size, 2 + j * 6 + 2, none⟩ = some (.int .i64 yg) := r1 2 (.int .i64 yg) rfl
                     have glt : w1.heap.size < w11.heap.size := lt_of_block hN
                     have gfz : w11.frozen? ⟨w1.heap.size, 2 + j * 6 + 2, none⟩ = false := frozen_of_block hN
                     obtain ⟨w12, hw12⟩ : ∃ W, W = w11.setCell ⟨w1.heap.size, 2 + j * 6 + 2, none⟩ (.int .i64 (wrap64 (yg + q))) := ⟨_, rfl⟩
                     have HN12 : Hid (w12.heap[w1.heap.size]? = some (.cells (addN X k q).toArray 42 (0, 0))) := Lib.hid (by rw [hw12, block_setCell hN, HAN.out]; simp)
                     have HG12 : Hid (w12.heap[w10.heap.size]? = some (.cells g.cells 37 (0, 0))) := Lib.hid (by rw [hw12]; exact (block_setCell_other (by have h1 := HGB.out.2; have h2 := HS910.out; omega) _).trans HG11.out)
                     have H12 : Hid (Below _ _ w12) := Lib.hid (by rw [hw12]; exact H11.out.setCell HPH1.out.size _)
                     have HG0 : Hid (Off w1.heap.size g (setE 0 L 4 l4)) := Lib.hid (HGK.out.off HGB.out.2 (HOH.out _ (by have := (HBW.out _ HPH1.out).2; omega)))
                     have HGT12 : Hid (HT g (setE 0 L 4 l4) w12) := Lib.hid (by rw [hw12]; exact HGT11.out.setCellOff HG0.out _)
                     have HW12 := Lib.hid hw12
                     clear hN r1 hw12
                     go_upto_region 33 with (first
                      | (refine wpList_store_row rfl 37 (.tmp 15) (.tmp 138) rfl w10.heap.size g.cells rfl rfl _ _ HBG.out (HSH.out _) rfl (H1C.out _) ?_; rw [← HW11.out])
                      | fail)
                     rw [← HW12.out]
                     clear g2 glt gfz
                     go_wp2_with (first
                      | (refine wpList_load_row rfl 37 (.tmp 15) rfl w10.heap.size rfl _ _ _ _ HG12.out huh rfl (HSH.out _) ?_)
                      | (refine wpList_load_row rfl 42 (.tmp 6) rfl w1.heap.size rfl _ _ _ _ HN12.out huNO rfl (HSNO.out _ HNF.out) ?_)
                      | fail)
                     refine (CN.out g _ _ HGT12.out rfl).mono ?_
                     rintro e w13 ⟨hb13, A6, n6, c6, hl6, ho6, rfl⟩
                     have H13 := Lib.hid (H12.out.trans (hb13.mono H12.out.size))
                     have HK6 : Hid (PutK 42 51 6 0 l6 g (g.set 6 A6 n6 c6) w12.heap.size w13) := Lib.hid (.inr ⟨rfl, A6, n6, c6, hl6, ho6, rfl⟩)
                     obtain ⟨g6, hg6⟩ : ∃ z, g.set 6 A6 n6 c6 = z := ⟨_, rfl⟩
                     rw [hg6] at HK6 ⊢
                     have HT6 := Lib.hid (HK6.out.htl (by decide) HL6.out.1 HL6.out.2 (HGT12.out.below hb13))
                     have HG13 := Lib.hid ((hb13.block _ (lt_of_block HG12.out)).trans HG12.out)
                     have HZ6 : Hid (g6.z = zE 0 h.z) := Lib.hid (by rw [← hg6]; rcases HGK.out with ⟨h1, _⟩ | ⟨_, A, m4, c4, _, _, rfl⟩; exact absurd rfl h1; rfl)
                     have HF6 : Hid (Off w10.heap.size g6 (setE 0 (setE 0 L 4 l4) 6 l6)) := Lib.hid (HK6.out.off (lt_of_block HG12.out) HGF.out)
                     clear hb13 hl6 ho6 hg6
                     obtain ⟨w14, hw14⟩ : ∃ W, W = w13.setRow w10.heap.size g6.cells := ⟨_, rfl⟩
                     have HG14 : Hid (w14.heap[w10.heap.size]? = some (.cells g6.cells 37 (0, 0))) := Lib.hid (by rw [hw14]; exact setRow_heap _ _ _ _ _ _ HG13.out)
                     have H14 : Hid (Below _ _ w14) := Lib.hid (by rw [hw14]; exact setRow_below H13.out H10.out.size _)
                     have HT14 : Hid (HT g6 (setE 0 (setE 0 L 4 l4) 6 l6) w14) := Lib.hid (by rw [hw14]; exact HT6.out.setRowOff HF6.out _)
                     have HW14 := Lib.hid hw14
                     clear hw14
                     go_upto_region 34 with (first
                      | (refine wpList_store_row rfl 37 (.tmp 15) (.tmp 157) rfl w10.heap.size g6.cells rfl rfl _ _ HG13.out (HSH.out _) rfl (H1C.out _) ?_; rw [← HW14.out])
                      | fail)
                     obtain ⟨x0, x1, x2, x3, x4, x5, xlt⟩ := HCHX.out _ H14.out
                     go_wp2_with (first
                      | (refine wpList_load_row rfl 37 (.tmp 15) rfl w10.heap.size rfl _ _ _ _ HG14.out huh rfl (HSH.out _) ?_)
                      | fail)
                     clear x0 x1 x2 x3 x4 x5 xlt
                     obtain ⟨is, hcw⟩ := CW.out g6 _ _ HT14.out rfl
                     refine hcw.mono ?_
                     clear hcw
                     rintro e w15 ⟨rfl, hb15⟩
                     have H15 := Lib.hid (H14.out.trans (hb15.mono H14.out.size))
                     have HT15 := Lib.hid (HT14.out.below hb15)
                     have HG15 := Lib.hid ((hb15.block _ (lt_of_block HG14.out)).trans HG14.out)
                     clear hb15
                     obtain ⟨w16, hw16⟩ : ∃ W, W = w15.alloc (.cells #[.string t.item, .string t.lot, .int .i64 (wrap64 (t.inn + q)), .int .i64 t.out, .int .i64 t.back, .int .i64 t.fixed] 75) := ⟨_, rfl⟩
                     have hb16 : Below w15.heap.size w15 w16 := by rw [hw16]; exact (Below.refl _ _).alloc (Nat.le_refl _) _
                     have H16 := Lib.hid (H15.out.trans (hb16.mono H15.out.size))
                     have HT16 := Lib.hid (HT15.out.below hb16)
                     have HG16 := Lib.hid ((hb16.block _ (lt_of_block HG15.out)).trans HG15.out)
                     have HTB : Hid (w16.heap[w15.heap.size]? = some (.cells #[.string t.item, .string t.lot, .int .i64 (wrap64 (t.inn + q)), .int .i64 t.out, .int .i64 t.back, .int .i64 t.fixed] 75 (0, 0))) := Lib.hid (by rw [hw16]; exact heap_alloc_new _ _)
                     have HW16 := Lib.hid hw16
                     clear hw16 hb16
                     go_upto_region 36 with fail
                     rw [← HW16.out]
                     go_wp2_with (first
                      | (refine wpList_load_row rfl 37 (.tmp 15) rfl w10.heap.size rfl _ _ _ _ HG16.out huh rfl (HSH.out _) ?_)
                      | (refine wpList_load_row rfl 75 (.tmp 17) rfl w15.heap.size rfl _ _ _ _ HTB.out huTO rfl HSTO.out ?_)
                      | fail)
                     refine (CT.out g6 _ _ HT16.out rfl).mono ?_
                     rintro e w17 ⟨hb17, A3, n3, c3, hl3, ho3, rfl⟩
                     have H17 := Lib.hid (H16.out.trans (hb17.mono H16.out.size))
                     have HK3 : Hid (PutK 75 6 13 0 l13 g6 (g6.set 13 A3 n3 c3) w16.heap.size w17) := Lib.hid (.inr ⟨rfl, A3, n3, c3, hl3, ho3, rfl⟩)
                     have hz3 : (g6.set 13 A3 n3 c3).z = g6.z := rfl
                     obtain ⟨g3, hg3⟩ : ∃ z, g6.set 13 A3 n3 c3 = z := ⟨_, rfl⟩
                     rw [hg3] at HK3 hz3 ⊢
                     have HT3 := Lib.hid (HK3.out.htl (by decide) HL13.out.1 HL13.out.2 (HT16.out.below hb17))
                     have HZ3 := Lib.hid hz3
                     clear hb17 hl3 ho3 hg3 hz3
                     go_wp2_with (first
                      | (refine wpList_store_row rfl 37 (.tmp 4) (.tmp 174) rfl (w.heap.size + 2) g3.cells rfl rfl _ _ (HZ.out _ H17.out) (HSH.out _) rfl (H1C.out _) ?_)
                      | fail)
                     have HSZ : Hid (w9.heap.size ≤ w12.heap.size ∧ w9.heap.size ≤ w16.heap.size) := Lib.hid (by
                      have a1 := IH10.out.size
                      have a2 : w10.heap.size ≤ w12.heap.size := Nat.le_of_lt (lt_of_block HG12.out)
                      have a3 : w10.heap.size ≤ w16.heap.size := Nat.le_of_lt (lt_of_block HG16.out)
                      have a4 := HS910.out
                      omega)
                     have hof : ∀ o, Off o h L → o < w9.heap.size → Off o g3 (setE 0 (setE 0 (setE 0 L 4 l4) 6 l6) 13 l13) := fun o ho hl => HK3.out.off (Nat.lt_of_lt_of_le hl HSZ.out.2) (HK6.out.off (Nat.lt_of_lt_of_le hl HSZ.out.1) (HGK.out.off hl ho))
                     have hM2 : setX 0 M = setE 0 (setE 0 (setE 0 L 4 l4) 6 l6) 13 l13 := by rw [setX_ok rfl]; funext i; exact (HM.out i).symm
                     exact bodyPost_ret (results_row_tmp rfl _ _ (w.heap.size + 2) _ _ _ _ rfl (setRow_heap _ _ _ _ _ _ (HZ.out _ H17.out)) huh rfl (HSH.out _)) rfl (by
                      rw [HE.out]
                      refine ⟨setRow_below (HBW.out _ H17.out).1 (show w.heap.size ≤ w.heap.size + 2 by omega) _, g3, rfl, ?_, ?_, fun hc => HK3.out.caps (HK6.out.caps (HGK.out.caps hc)), fun o ho hl => ?_⟩
                      · rw [hM2]; exact HT3.out.setRowOff (hof _ (HOH.out _ (by omega)) (by have := HGB.out.1; omega)) _
                      · rw [HZ3.out]; exact HZ6.out
                      · rw [hM2]; exact hof o ho (by have := HGB.out.1; omega))
                    · have bn : ((pe : Int) != 0) = true := by simpa using hk0
                      have HKL := Lib.hid hk0
                      have HE : Hid (er = pe) := HA4
                      clear hk0
                      go_wp2_with (first
                       | (refine wpList_store_row rfl 37 (.tmp 15) (.tmp 138) rfl w10.heap.size g.cells rfl rfl _ _ HBG.out (HSH.out _) rfl (H1C.out _) ?_; rw [← HW11.out])
                       | (refine wpList_store_row rfl 37 (.tmp 4) (.tmp 142) rfl (w.heap.size + 2) Hs.zero rfl rfl _ _ (HZ.out _ H11.out) HSQ.out rfl H1Q.out ?_)
                       | fail)
                      exact bodyPost_ret (results_row_tmp rfl _ _ (w.heap.size + 2) _ _ _ _ rfl (setRow_heap _ _ _ _ _ _ (HZ.out _ H11.out)) huh rfl HSQ.out) rfl (by
                       have hne : er ≠ 0 := by rw [HE.out]; exact HKL.out
                       rw [HE.out] at hne ⊢
                       exact HouseP.bad hne (setRow_below (HBW.out _ H11.out).1 (show w.heap.size ≤ w.heap.size + 2 by omega) Hs.zero))
                 · have bk : ((re : Int) == 0) = false := by simpa using hk0
                   have bn : ((re : Int) != 0) = true := by simpa using hk0
                   have HKL := Lib.hid hk0
                   clear hk0
                   have HE : Hid (er = re) := Lib.hid (by
                    have hb : recB L (Cm.mk cn ci cu n cl cd) X k = re := by rw [HRB3.out]; simp
                    rw [HA3.out, if_pos (by rw [hb]; exact HKL.out), hb])
                   go_wp2_with (first
                    | (refine wpList_store_row rfl 37 (.tmp 4) (.tmp 121) rfl (w.heap.size + 2) Hs.zero rfl rfl _ _ (HZ.out _ H8.out) HSQ.out rfl H1Q.out ?_)
                    | fail)
                   exact bodyPost_ret (results_row_tmp rfl _ _ (w.heap.size + 2) _ _ _ _ rfl (setRow_heap _ _ _ _ _ _ (HZ.out _ H8.out)) huh rfl HSQ.out) rfl (by
                    have hne : er ≠ 0 := by rw [HE.out]; exact HKL.out
                    rw [HE.out] at hne ⊢
                    exact HouseP.bad hne (setRow_below (HBW.out _ H8.out).1 (show w.heap.size ≤ w.heap.size + 2 by omega) Hs.zero))
               · have bk : ((de : Int) == 0) = false := by simpa using hk0
                 have bn : ((de : Int) != 0) = true := by simpa using hk0
                 have HKL := Lib.hid hk0
                 clear hk0
                 have HE : Hid (er = de) := Lib.hid (by
                  have hb : recB L (Cm.mk cn ci cu n cl cd) X k = de := by rw [HRB3.out]; rw [if_pos HKL.out]
                  rw [HA3.out, if_pos (by rw [hb]; exact HKL.out), hb])
                 go_wp2_with (first
                  | (refine wpList_store_row rfl 37 (.tmp 4) (.tmp 121) rfl (w.heap.size + 2) Hs.zero rfl rfl _ _ (HZ.out _ H7.out) HSQ.out rfl H1Q.out ?_)
                  | fail)
                 exact bodyPost_ret (results_row_tmp rfl _ _ (w.heap.size + 2) _ _ _ _ rfl (setRow_heap _ _ _ _ _ _ (HZ.out _ H7.out)) huh rfl HSQ.out) rfl (by
                  have hne : er ≠ 0 := by rw [HE.out]; exact HKL.out
                  rw [HE.out] at hne ⊢
                  exact HouseP.bad hne (setRow_below (HBW.out _ H7.out).1 (show w.heap.size ≤ w.heap.size + 2 by omega) Hs.zero))
           · have bk : ((fe : Int) == 0) = false := by simpa using hk0
             have bn : ((fe : Int) != 0) = true := by simpa using hk0
             have HKL := Lib.hid hk0
             clear hk0
             have HE : Hid (er = fe) := Lib.hid (by
              have hb : recB L (Cm.mk cn ci cu n cl cd) X k = fe := by rw [HRB.out]; rw [if_neg (by simp), if_pos HKL.out]
              rw [HA3.out, if_pos (by rw [hb]; exact HKL.out), hb])
             go_wp2_with fail
             go_quiet (fail)
             have HT9 := Lib.hid (below_drewN H5.out nq)
             go_wp2_with (first
              | (refine wpList_store_row rfl 37 (.tmp 4) (.tmp 121) rfl (w.heap.size + 2) Hs.zero rfl rfl _ _ (HZ.out _ HT9.out) HSQ.out rfl H1Q.out ?_)
              | fail)
             exact bodyPost_ret (results_row_tmp rfl _ _ (w.heap.size + 2) _ _ _ _ rfl (setRow_heap _ _ _ _ _ _ (HZ.out _ HT9.out)) huh rfl HSQ.out) rfl (by
              have hne : er ≠ 0 := by rw [HE.out]; exact HKL.out
              rw [HE.out] at hne ⊢
              exact HouseP.bad hne (setRow_below (HBW.out _ HT9.out).1 (show w.heap.size ≤ w.heap.size + 2 by omega) Hs.zero))
         · have bk : ((be : Int) == 0) = false := by simpa using hk0
           have bn : ((be : Int) != 0) = true := by simpa using hk0
           have HKL := Lib.hid hk0
           clear hk0
           have HE : Hid (er = be) := Lib.hid (by
            have hb : recB L (Cm.mk cn ci cu n cl cd) X k = be := by rw [HRB.out]; rw [if_pos HKL.out]
            rw [HA3.out, if_pos (by rw [hb]; exact HKL.out), hb])
           go_wp2_with fail
           go_quiet (fail)
           have HT9 := Lib.hid (below_drewN H4.out nq)
           go_wp2_with (first
            | (refine wpList_store_row rfl 37 (.tmp 4) (.tmp 121) rfl (w.heap.size + 2) Hs.zero rfl rfl _ _ (HZ.out _ HT9.out) HSQ.out rfl H1Q.out ?_)
            | fail)
           exact bodyPost_ret (results_row_tmp rfl _ _ (w.heap.size + 2) _ _ _ _ rfl (setRow_heap _ _ _ _ _ _ (HZ.out _ HT9.out)) huh rfl HSQ.out) rfl (by
            have hne : er ≠ 0 := by rw [HE.out]; exact HKL.out
            rw [HE.out] at hne ⊢
            exact HouseP.bad hne (setRow_below (HBW.out _ HT9.out).1 (show w.heap.size ≤ w.heap.size + 2 by omega) Hs.zero))

end Go.Proofs.YtgbilfkjfeheaaaGreat
