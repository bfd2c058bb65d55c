/-
 CONTRACT of inbound's Receive. (By wip/tools/gen_kin.py.)
-/
import Derived.Test.YtgbilfkjfeheaaaGreatKCame
import Derived.Test.YtgbilfkjfeheaaaGreatKNote
import Derived.Test.YtgbilfkjfeheaaaGreatKTot
import Derived.Test.YtgbilfkjfeheaaaGreatKLn
import Derived.Test.YtgbilfkjfeheaaaGreatKM
import Derived.Test.YtgbilfkjfeheaaaGreatHLastN
import Derived.Test.YtgbilfkjfeheaaaGreatJCon
import Derived.BigQuiet
import Derived.Deep.CutRange
namespace Go.Proofs.YtgbilfkjfeheaaaGreat
set_option linter.unusedVariables false
open Go.RowKit
open Pl (firstG findG putG It firstG_none firstG_some)

theorem cbaseU_wf (x : It) (s : ByteArray) (n q : Int) (hq : Pl.baseU x s n = q) : -9223372036854775808 ≤ q ∧ q ≤ 9223372036854775807 := by
 rw [← hq]
 unfold Pl.baseU
 split
 · omega
 · split
   · omega
   · rename_i hf h
     have hp : 0 < n * Pl.factorU x s := Int.mul_pos (by omega) (by rcases Pl.factorU_cases x s with h1 | h1 | h1 <;> omega)
     omega
theorem fits_setR : ∀ {ks : List CK} {vs : List Value} (i : Nat) (z : Int), Fits ks vs → (ks[i]? = some CK.i ∨ ks.length ≤ i) → Fits ks (vs.set i (.int .i64 z))
 | [], [], _, _, h, _ => h
 | [], _ :: _, _, _, h, _ => h.elim
 | _ :: _, [], _, _, h, _ => h.elim
 | k :: ks, v :: vs, 0, z, h, hk => by
  rcases hk with hk | hk
  · simp only [List.getElem?_cons_zero, Option.some.injEq] at hk
    subst hk
    exact ⟨⟨z, rfl⟩, h.2⟩
  · simp at hk
 | k :: ks, v :: vs, i + 1, z, h, hk => ⟨h.1, fits_setR i z h.2 (by simpa using hk)⟩
theorem addN_fitsC {X : List Value} (h : Fits kNotice X) (k : Nat) (q : Int) : Fits kNotice (addN X k q) := by
 refine fits_setR _ _ h ?_
 by_cases hk : k < 8
 · left
   have : ∀ k < 8, kNotice[2 + k * 6 + 2]? = some CK.i := by
    intro k hk
    match k, hk with
    | 0, _ | 1, _ | 2, _ | 3, _ | 4, _ | 5, _ | 6, _ | 7, _ => rfl
   exact this k hk
 · right
   rw [show kNotice.length = 51 from rfl]; omega
theorem recE_open (L : Nat → List (List Value)) (x : Cm) : recE L x = if shutE (L 6) x.notice ≠ 0 then shutE (L 6) x.notice else if lineI (nlines (openX (L 6) x.notice)) x.item < 0 ∨ (atItem (L 0) x.item).isSome = false then 12 else if recB L x (openX (L 6) x.notice) (lineI (nlines (openX (L 6) x.notice)) x.item).toNat ≠ 0 then recB L x (openX (L 6) x.notice) (lineI (nlines (openX (L 6) x.notice)) x.item).toNat else putE (L 4) (recK L x) (recQ L x) := by
 have ho : shutE (L 6) x.notice = 0 → openX (L 6) x.notice = gotNotice (L 6) x.notice := fun h => if_pos h
 unfold recE
 by_cases h1 : (atNotice (L 6) x.notice).isSome = false
 · have h2 : shutE (L 6) x.notice = 12 := by unfold shutE; rw [if_pos h1]
   rw [if_pos h1, h2]; rfl
 · rw [if_neg h1]
   by_cases h2 : nshut (gotNotice (L 6) x.notice) = true
   · have h3 : shutE (L 6) x.notice = 13 := by unfold shutE; rw [if_neg h1, if_pos h2]
     rw [if_pos h2, h3]; rfl
   · have h0 : shutE (L 6) x.notice = 0 := by unfold shutE; rw [if_neg h1, if_neg h2]
     rw [if_neg h2, ho h0, h0]; rfl
set_option maxRecDepth 100000 in
set_option maxHeartbeats 12800000 in
theorem crecv (h : Hs) (L : Nat → List (List Value)) (cn ci cu : ByteArray) (n : Int) (cl cd : ByteArray) (w : World) (hh : HT h L w) (hn4 : h.n 4 ≤ 1100) (hn6 : h.n 6 ≤ 1100) (hn13 : h.n 13 ≤ 1100) (hc : Caps h) (hwn : Wf n) :
 Calls Tryz.prog 20 #[.agg h.cells, .agg #[.string cn, .string ci, .string cu, .int .i64 n, .string cl, .string cd]] w (HouseP (recE L (Cm.mk cn ci cu n cl cd)) (recM L (Cm.mk cn ci cu n cl cd)) h L w) := by
 have HHT := Lib.hid hh
 obtain ⟨X, hX⟩ : ∃ X, openX (L 6) cn = X := ⟨_, rfl⟩
 have HXF : Hid (Fits kNotice X) := Lib.hid (hX ▸ openX_fits (hh 6 (by decide)).2.2.1 cn)
 obtain ⟨se, hse⟩ : ∃ q, shutE (L 6) cn = q := ⟨_, rfl⟩
 obtain ⟨ll, hll⟩ : ∃ z, nlines X = z := ⟨_, rfl⟩
 have HLF : Hid (Fits kLine8 ll) := Lib.hid (by rw [← hll]; exact (notice_parts HXF.out).2.2.1)
 obtain ⟨x, hx, hxo⟩ := item_it hh ci
 obtain ⟨ii, hii⟩ : ∃ q, (atItem (L 0) ci).isSome = q := ⟨_, rfl⟩
 obtain ⟨q, hq⟩ : ∃ z, Pl.baseU x cu n = z := ⟨_, rfl⟩
 obtain ⟨be, hbe⟩ : ∃ z, Pl.baseE x cu n = z := ⟨_, rfl⟩
 obtain ⟨st, hst⟩ : ∃ z : Int, (if x.chk = true then 2 else 1) = z := ⟨_, rfl⟩
 obtain ⟨za, hza⟩ : ∃ z, lineI ll ci = z := ⟨_, rfl⟩
 obtain ⟨k, hk⟩ : ∃ z, za.toNat = z := ⟨_, rfl⟩
 obtain ⟨ce, hce⟩ : ∃ z, camE L (Cm.mk cn ci cu n cl cd) X k q = z := ⟨_, rfl⟩
 obtain ⟨pe, hpe⟩ : ∃ z, putE (L 4) (Ky.mk cd ci cl st) q = z := ⟨_, rfl⟩
 obtain ⟨l4, hl4⟩ : ∃ z, putL (L 4) (Ky.mk cd ci cl st) q = z := ⟨_, rfl⟩
 obtain ⟨er, her⟩ : ∃ r, recE L (Cm.mk cn ci cu n cl cd) = r := ⟨_, rfl⟩
 obtain ⟨M, hM⟩ : ∃ M, recM L (Cm.mk cn ci cu n cl cd) = M := ⟨_, rfl⟩
 have hrq : recQ L (Cm.mk cn ci cu n cl cd) = q := by unfold recQ; simp only []; rw [hxo, hq]
 have hrk : recK L (Cm.mk cn ci cu n cl cd) = Ky.mk cd ci cl st := by unfold recK; simp only []; rw [hxo, hst]
 have HA : Hid (er = if se ≠ 0 then se else if za < 0 ∨ ii = false then 12 else if (if be ≠ 0 then be else ce) ≠ 0 then (if be ≠ 0 then be else ce) else pe) := Lib.hid (by rw [← her, recE_open]; simp only []; rw [recB_came, hX, hse, hll, hza, hk, hii, hrk, hrq, hpe, hxo, hbe, hce])
 obtain ⟨l6, hl6⟩ : ∃ z, putG ordNotice (L 6) (addN X k q) = z := ⟨_, rfl⟩
 obtain ⟨l13, hl13⟩ : ∃ z, putG ordL (L 13) ((tlOf (gotT (L 13) ci cl)).add q).cells = z := ⟨_, rfl⟩
 have HM : Hid (se = 0 → ∀ j, setE 0 (setE 0 (setE 0 L 4 l4) 6 l6) 13 l13 j = M j) := Lib.hid (fun h0 j => by
  have hX2 : gotNotice (L 6) cn = X := by rw [← hX]; unfold openX; rw [hse, if_pos h0]
  rw [← hM]
  unfold setE recM recN recT
  simp only [if_true]
  rw [hX2, hll, hza, hk, hrq, hrk, hl4, hl6, hl13]
  by_cases j4 : j = 4
  · rw [if_pos j4, if_pos j4]; subst j4; rfl
  · rw [if_neg j4, if_neg j4]
    by_cases j6 : j = 6
    · rw [if_pos j6, if_pos j6]; subst j6; rfl
    · rw [if_neg j6, if_neg j6])
 have CF : Hid (∀ W, Below w.heap.size w W → Calls Tryz.prog 48 #[.agg h.cells, .string cn] W fun e w' => e = .returned (.tuple #[.agg X.toArray, .int .i64 (se : Nat)]) ∧ Below W.heap.size W w') := Lib.hid (fun W hW => by have := copen h L cn W (hh.below hW); rw [hX, hse] at this; exact this)
 have CI : Hid (∀ W, Below w.heap.size w W → Calls Tryz.prog 68 #[.agg h.cells, .string ci] W fun e w' => e = .returned (.tuple #[.agg #[.string x.code, .string (x.nm 0), .int .i64 (x.fc 0), .string (x.nm 1), .int .i64 (x.fc 1), .string (x.nm 2), .int .i64 (x.fc 2), .string (x.nm 3), .int .i64 (x.fc 3), .int .i64 x.vol, .int .i64 x.wei, .bool x.lots, .bool x.serial, .bool x.chk], .bool ii]) ∧ Below W.heap.size W w') := Lib.hid (fun W hW => by have := fcItem (hh.below hW) ci; rw [hx, hii] at this; exact this)
 have CB : Hid (∀ W, Calls Tryz.prog 69 #[.agg #[.string x.code, .string (x.nm 0), .int .i64 (x.fc 0), .string (x.nm 1), .int .i64 (x.fc 1), .string (x.nm 2), .int .i64 (x.fc 2), .string (x.nm 3), .int .i64 (x.fc 3), .int .i64 x.vol, .int .i64 x.wei, .bool x.lots, .bool x.serial, .bool x.chk], .string cu, .int .i64 n] W fun e w' => e = .returned (.tuple #[.int .i64 q, .int .i64 (be : Nat)]) ∧ Below W.heap.size W w') := Lib.hid (fun W => by have := base_any x cu n W hwn.1 hwn.2; rw [hq, hbe] at this; exact this)
 have hqw : -9223372036854775808 ≤ q ∧ q ≤ 9223372036854775807 := cbaseU_wf x cu n q hq
 have CC : Hid (k < 8 → ∀ W, Below w.heap.size w W → Calls Tryz.prog 70 #[.agg h.cells, .agg #[.string cn, .string ci, .string cu, .int .i64 n, .string cl, .string cd], .agg X.toArray, .int .i64 (k : Int), .int .i64 q] W fun e w' => e = .returned (.int .i64 (ce : Nat)) ∧ Below W.heap.size W w') := Lib.hid (fun hk8 W hW => by have := ccame h L cn ci cu n cl cd X k q W (hh.below hW) HXF.out hk8 hqw; rwa [hce] at this)
 have CST : Hid (∀ W, Calls Tryz.prog 72 #[.agg #[.string x.code, .string (x.nm 0), .int .i64 (x.fc 0), .string (x.nm 1), .int .i64 (x.fc 1), .string (x.nm 2), .int .i64 (x.fc 2), .string (x.nm 3), .int .i64 (x.fc 3), .int .i64 x.vol, .int .i64 x.wei, .bool x.lots, .bool x.serial, .bool x.chk]] W fun e w' => e = .returned (.int .i64 st) ∧ Below W.heap.size W w') := Lib.hid (fun W => by have := cstatus x W; rwa [hst] at this)
 have CP : Hid (∀ W, Below w.heap.size w W → Calls Tryz.prog 71 #[.agg h.cells, .agg #[.string cd, .string ci, .string cl, .int .i64 st], .int .i64 q] W (PutP 71 6 4 pe l4 h W)) := Lib.hid (fun W hW => by have := cputq h L cd ci cl st q W (hh.below hW) (by omega) (hc 4 (by decide)); rwa [hpe, hl4] at this)
 have HL4 : Hid (Things (kOf 4) l4 ∧ l4.length ≤ 1000000) := Lib.hid ⟨by rw [← hl4]; exact upQ_things (hh 4 (by decide)).2.2.1 _, by rw [← hl4]; have h1 := upQ_len (L 4) (putX (L 4) (Ky.mk cd ci cl st) q); have h2 := (hh 4 (by decide)).1; unfold putL; omega⟩
 have HNF : Hid (Fits kNotice (addN X k q)) := Lib.hid (addN_fitsC HXF.out k q)
 have HL6 : Hid (Things (kOf 6) l6 ∧ l6.length ≤ 1000000) := Lib.hid ⟨by rw [← hl6]; exact Things.put (hh 6 (by decide)).2.2.1 HNF.out, by rw [← hl6, Pl.putG_len]; have h2 := (hh 6 (by decide)).1; split <;> omega⟩
 have HL13 : Hid (Things (kOf 13) l13 ∧ l13.length ≤ 1000000) := Lib.hid ⟨by rw [← hl13]; exact Things.put (hh 13 (by decide)).2.2.1 (Tl.fits _), by rw [← hl13, Pl.putG_len]; have h2 := (hh 13 (by decide)).1; split <;> omega⟩
 have CN : Hid (∀ (g : Hs) (G : Nat → List (List Value)) W, HT g G W → Caps g → G 6 = L 6 → Calls Tryz.prog 44 #[.agg g.cells, .agg (addN X k q).toArray] W fun e w' => Below W.heap.size W w' ∧ ∃ A n c, n = l6.length ∧ w'.ownsRow W.heap.size 42 51 (.slice A n c) n l6.flatten ∧ e = .returned (.agg (g.set 6 A n c).cells)) := Lib.hid (fun g G W hg hcg hG => by rw [← hl6, ← hG]; exact cwithN g G _ W hg HNF.out (by rw [(hg 6 (by decide)).1, hG, ← (hh 6 (by decide)).1]; exact hn6) (hcg 6 (by decide)))
 have CT : Hid (∀ (g : Hs) (G : Nat → List (List Value)) W, HT g G W → Caps g → G 13 = L 13 → Calls Tryz.prog 73 #[.agg g.cells, .string ci, .string cl, .int .i64 q] W fun e w' => Below W.heap.size W w' ∧ ∃ A n c, n = l13.length ∧ w'.ownsRow W.heap.size 75 6 (.slice A n c) n l13.flatten ∧ e = .returned (.agg (g.set 13 A n c).cells)) := Lib.hid (fun g G W hg hcg hG => by rw [← hl13, ← hG]; exact cwithIn g G ci cl q W hg (by rw [(hg 13 (by decide)).1, hG, ← (hh 13 (by decide)).1]; exact hn13) (hcg 13 (by decide)))
 have HCAP := Lib.hid hc
 have HLV := Lib.hid hll
 have HKZ : Hid (za.toNat = k ∧ lineI ll ci = za) := Lib.hid ⟨hk, hza⟩
 rw [her, hM]
 have HOH : Hid (∀ g, w.heap.size ≤ g → Off g h L) := Lib.hid (fun g hg => hh.offge hg)
 clear her hX hse hll hx hxo hii hq hbe hce hst hpe hl4 hrq hrk hza hk hM hl6 hl13 hqw
 have HSNO : Hid (∀ y, Fits kNotice y → (Tryz.prog.info? 42).map (·.size) = some y.toArray.size) := Lib.hid (fun y hy => by rw [show (Tryz.prog.info? 42).map (·.size) = some 51 from by kernel_rfl, List.size_toArray, hy.length]; rfl)
 have huNO := Tryz.underlying42
 have HOO : Hid (∀ y, Fits kNotice y → (#[.string ⟨#[]⟩, .string ⟨#[]⟩, .string ⟨#[]⟩, .int .i64 0, .int .i64 0, .int .i64 0, .int .i64 0, .int .i64 0, .string ⟨#[]⟩, .int .i64 0, .int .i64 0, .int .i64 0, .int .i64 0, .int .i64 0, .string ⟨#[]⟩, .int .i64 0, .int .i64 0, .int .i64 0, .int .i64 0, .int .i64 0, .string ⟨#[]⟩, .int .i64 0, .int .i64 0, .int .i64 0, .int .i64 0, .int .i64 0, .string ⟨#[]⟩, .int .i64 0, .int .i64 0, .int .i64 0, .int .i64 0, .int .i64 0, .string ⟨#[]⟩, .int .i64 0, .int .i64 0, .int .i64 0, .int .i64 0, .int .i64 0, .string ⟨#[]⟩, .int .i64 0, .int .i64 0, .int .i64 0, .int .i64 0, .int .i64 0, .string ⟨#[]⟩, .int .i64 0, .int .i64 0, .int .i64 0, .int .i64 0, .int .i64 0, .bool false] : Array Value).size = y.toArray.size) := Lib.hid (fun y hy => by rw [List.size_toArray, List.size_toArray, hy.length]; rfl)
 have HOC : Hid (∀ y, Fits kNotice y → y.toArray.all (·.oneCell') = true) := Lib.hid (fun y hy => all_oneCell_toArray (fits_one hy))
 have huIT := Tryz.underlying87
 have HSIT : Hid ((Tryz.prog.info? 87).map (·.size) = some (#[.string x.code, .string (x.nm 0), .int .i64 (x.fc 0), .string (x.nm 1), .int .i64 (x.fc 1), .string (x.nm 2), .int .i64 (x.fc 2), .string (x.nm 3), .int .i64 (x.fc 3), .int .i64 x.vol, .int .i64 x.wei, .bool x.lots, .bool x.serial, .bool x.chk] : Array Value).size) := Lib.hid (by kernel_rfl)
 have HSIL : Hid ((Tryz.prog.info? 87).map (·.size) = some 14) := Lib.hid (by kernel_rfl)
 have HSNL : Hid ((Tryz.prog.info? 42).map (·.size) = some (addN X k q).length) := Lib.hid (by rw [HNF.out.length]; kernel_rfl)
 have HSHL : Hid (∀ a : Hs, (Tryz.prog.info? 37).map (·.size) = some a.cells.toList.length) := Lib.hid (fun a => by kernel_rfl)
 obtain ⟨W0, hW0⟩ : ∃ W0, W0 = (((w.alloc (.cells h.cells 37)).alloc (.cells #[.string cn, .string ci, .string cu, .int .i64 n, .string cl, .string cd] 54)).alloc (.cells #[.slice none 0 0, .slice none 0 0, .slice none 0 0, .slice none 0 0, .slice none 0 0, .slice none 0 0, .slice none 0 0, .slice none 0 0, .slice none 0 0, .slice none 0 0, .slice none 0 0, .slice none 0 0, .slice none 0 0, .slice none 0 0, .int .i64 0] 37)) := ⟨_, rfl⟩
 have hb0 : Below w.heap.size w W0 := by rw [hW0]; exact (((Below.refl _ _).alloc (Nat.le_refl _) _).alloc (by simp <;> omega) _).alloc (by simp <;> omega) _
 have hs0 : W0.heap.size = w.heap.size + 3 := by rw [hW0]; simp
 have HH : Hid (∀ W, Below W0.heap.size W0 W → W.heap[w.heap.size]? = some (.cells h.cells 37 (0, 0))) := Lib.hid (fun W hW => (hW.block _ (by omega)).trans (by
  rw [hW0]
  have hq := heap_alloc_new w (.cells h.cells 37)
  exact (Below.heap_alloc _ _ _ (by simp <;> omega)).trans ((Below.heap_alloc _ _ _ (by simp <;> omega)).trans ((by simpa using hq)))))
 have HX : Hid (∀ W, Below W0.heap.size W0 W → W.heap[w.heap.size + 1]? = some (.cells #[.string cn, .string ci, .string cu, .int .i64 n, .string cl, .string cd] 54 (0, 0))) := Lib.hid (fun W hW => (hW.block _ (by omega)).trans (by
  rw [hW0]
  have hq := heap_alloc_new (w.alloc (.cells h.cells 37)) (.cells #[.string cn, .string ci, .string cu, .int .i64 n, .string cl, .string cd] 54)
  exact (Below.heap_alloc _ _ _ (by simp <;> omega)).trans ((by simpa using hq))))
 have HZ : Hid (∀ W, Below W0.heap.size W0 W → W.heap[w.heap.size + 2]? = some (.cells Hs.zero 37 (0, 0))) := Lib.hid (fun W hW => (hW.block _ (by omega)).trans (by
  rw [hW0]
  have hq := heap_alloc_new ((w.alloc (.cells h.cells 37)).alloc (.cells #[.string cn, .string ci, .string cu, .int .i64 n, .string cl, .string cd] 54)) (.cells #[.slice none 0 0, .slice none 0 0, .slice none 0 0, .slice none 0 0, .slice none 0 0, .slice none 0 0, .slice none 0 0, .slice none 0 0, .slice none 0 0, .slice none 0 0, .slice none 0 0, .slice none 0 0, .slice none 0 0, .slice none 0 0, .int .i64 0] 37)
  exact (by simpa [Hs.zero] using hq)))
 have HBW : Hid (∀ W, Below W0.heap.size W0 W → Below w.heap.size w W ∧ w.heap.size + 3 ≤ W.heap.size) := Lib.hid (fun W hW => ⟨hb0.trans (hW.mono (by omega)), by have := hW.size; omega⟩)
 have huh := Tryz.underlying37
 have HSH : Hid (∀ a : Hs, (Tryz.prog.info? 37).map (·.size) = some a.cells.size) := Lib.hid (fun a => by kernel_rfl)
 have HSQ : Hid ((Tryz.prog.info? 37).map (·.size) = some Hs.zero.size) := Lib.hid (by kernel_rfl)
 have H1C : Hid (∀ a : Hs, a.cells.all (·.oneCell') = true) := Lib.hid (fun a => by simp [Hs.cells, Value.oneCell'])
 have H1Q : Hid (Hs.zero.all (·.oneCell') = true) := Lib.hid (by simp [Hs.zero, Value.oneCell'])
 have huHX := Tryz.underlying54
 have HSHX : Hid ((Tryz.prog.info? 54).map (·.size) = some 6) := Lib.hid (by kernel_rfl)
 have HCHX : Hid (∀ W, Below W0.heap.size W0 W → W.cell? ⟨w.heap.size + 1, 0, none⟩ = some (.string cn) ∧ W.cell? ⟨w.heap.size + 1, 1, none⟩ = some (.string ci) ∧ W.cell? ⟨w.heap.size + 1, 2, none⟩ = some (.string cu) ∧ W.cell? ⟨w.heap.size + 1, 3, none⟩ = some (.int .i64 n) ∧ W.cell? ⟨w.heap.size + 1, 4, none⟩ = some (.string cl) ∧ W.cell? ⟨w.heap.size + 1, 5, none⟩ = some (.string cd) ∧ w.heap.size + 1 < W.heap.size) := Lib.hid (fun W hW => ⟨by rw [cell_of_block (HX.out W hW)]; rfl, by rw [cell_of_block (HX.out W hW)]; rfl, by rw [cell_of_block (HX.out W hW)]; rfl, by rw [cell_of_block (HX.out W hW)]; rfl, by rw [cell_of_block (HX.out W hW)]; rfl, by rw [cell_of_block (HX.out W hW)]; rfl, by have := hW.size; omega⟩)
 have H0 := Lib.hid (Below.refl W0.heap.size W0)
 clear hb0 hs0 hh hn4 hn6 hn13 hwn hc
 subst hW0
 go_enter Tryz.func20, Tryz.ntmps20
 obtain ⟨x0, x1, x2, x3, x4, x5, xlt⟩ := HCHX.out _ H0.out
 go_wp2_with (first
  | (refine wpList_load_row rfl 37 (.tmp 2) rfl w.heap.size rfl _ _ _ _ (HH.out _ H0.out) huh rfl (HSH.out _) ?_)
  | fail)
 refine (CF.out _ (HBW.out _ H0.out).1).mono ?_
 rintro e w1 ⟨rfl, hb9⟩
 have HPH1 := Lib.hid (H0.out.trans (hb9.mono H0.out.size))
 clear hb9
 have HBXH1 : Hid ((w1.alloc (.cells #[.string ⟨#[]⟩, .string ⟨#[]⟩, .string ⟨#[]⟩, .int .i64 0, .int .i64 0, .int .i64 0, .int .i64 0, .int .i64 0, .string ⟨#[]⟩, .int .i64 0, .int .i64 0, .int .i64 0, .int .i64 0, .int .i64 0, .string ⟨#[]⟩, .int .i64 0, .int .i64 0, .int .i64 0, .int .i64 0, .int .i64 0, .string ⟨#[]⟩, .int .i64 0, .int .i64 0, .int .i64 0, .int .i64 0, .int .i64 0, .string ⟨#[]⟩, .int .i64 0, .int .i64 0, .int .i64 0, .int .i64 0, .int .i64 0, .string ⟨#[]⟩, .int .i64 0, .int .i64 0, .int .i64 0, .int .i64 0, .int .i64 0, .string ⟨#[]⟩, .int .i64 0, .int .i64 0, .int .i64 0, .int .i64 0, .int .i64 0, .string ⟨#[]⟩, .int .i64 0, .int .i64 0, .int .i64 0, .int .i64 0, .int .i64 0, .bool false] 42)).heap[w1.heap.size]? = some (.cells #[.string ⟨#[]⟩, .string ⟨#[]⟩, .string ⟨#[]⟩, .int .i64 0, .int .i64 0, .int .i64 0, .int .i64 0, .int .i64 0, .string ⟨#[]⟩, .int .i64 0, .int .i64 0, .int .i64 0, .int .i64 0, .int .i64 0, .string ⟨#[]⟩, .int .i64 0, .int .i64 0, .int .i64 0, .int .i64 0, .int .i64 0, .string ⟨#[]⟩, .int .i64 0, .int .i64 0, .int .i64 0, .int .i64 0, .int .i64 0, .string ⟨#[]⟩, .int .i64 0, .int .i64 0, .int .i64 0, .int .i64 0, .int .i64 0, .string ⟨#[]⟩, .int .i64 0, .int .i64 0, .int .i64 0, .int .i64 0, .int .i64 0, .string ⟨#[]⟩, .int .i64 0, .int .i64 0, .int .i64 0, .int .i64 0, .int .i64 0, .string ⟨#[]⟩, .int .i64 0, .int .i64 0, .int .i64 0, .int .i64 0, .int .i64 0, .bool false] 42 (0, 0))) := Lib.hid (heap_alloc_new _ _)
 obtain ⟨w1b, hw1b⟩ : ∃ W, W = (w1.alloc (.cells #[.string ⟨#[]⟩, .string ⟨#[]⟩, .string ⟨#[]⟩, .int .i64 0, .int .i64 0, .int .i64 0, .int .i64 0, .int .i64 0, .string ⟨#[]⟩, .int .i64 0, .int .i64 0, .int .i64 0, .int .i64 0, .int .i64 0, .string ⟨#[]⟩, .int .i64 0, .int .i64 0, .int .i64 0, .int .i64 0, .int .i64 0, .string ⟨#[]⟩, .int .i64 0, .int .i64 0, .int .i64 0, .int .i64 0, .int .i64 0, .string ⟨#[]⟩, .int .i64 0, .int .i64 0, .int .i64 0, .int .i64 0, .int .i64 0, .string ⟨#[]⟩, .int .i64 0, .int .i64 0, .int .i64 0, .int .i64 0, .int .i64 0, .string ⟨#[]⟩, .int .i64 0, .int .i64 0, .int .i64 0, .int .i64 0, .int .i64 0, .string ⟨#[]⟩, .int .i64 0, .int .i64 0, .int .i64 0, .int .i64 0, .int .i64 0, .bool false] 42)).setRow w1.heap.size X.toArray := ⟨_, rfl⟩
 have H1 : Hid (Below (((w.alloc (.cells h.cells 37)).alloc (.cells #[.string cn, .string ci, .string cu, .int .i64 n, .string cl, .string cd] 54)).alloc (.cells #[.slice none 0 0, .slice none 0 0, .slice none 0 0, .slice none 0 0, .slice none 0 0, .slice none 0 0, .slice none 0 0, .slice none 0 0, .slice none 0 0, .slice none 0 0, .slice none 0 0, .slice none 0 0, .slice none 0 0, .slice none 0 0, .int .i64 0] 37)).heap.size (((w.alloc (.cells h.cells 37)).alloc (.cells #[.string cn, .string ci, .string cu, .int .i64 n, .string cl, .string cd] 54)).alloc (.cells #[.slice none 0 0, .slice none 0 0, .slice none 0 0, .slice none 0 0, .slice none 0 0, .slice none 0 0, .slice none 0 0, .slice none 0 0, .slice none 0 0, .slice none 0 0, .slice none 0 0, .slice none 0 0, .slice none 0 0, .slice none 0 0, .int .i64 0] 37)) w1b) := Lib.hid (by rw [hw1b]; exact setRow_below (HPH1.out.alloc HPH1.out.size _) HPH1.out.size _)
 have HRH1 : Hid (w1b.heap[w1.heap.size]? = some (.cells X.toArray 42 (0, 0))) := Lib.hid (by rw [hw1b]; exact setRow_heap _ _ _ _ _ _ HBXH1.out)
 have HWH1 := Lib.hid hw1b
 clear hw1b
 clear x0 x1 x2 x3 x4 x5 xlt
 have HN1 : Hid (∀ W, Below w1b.heap.size w1b W → W.heap[w1.heap.size]? = some (.cells X.toArray 42 (0, 0))) := Lib.hid (fun W hW => (hW.block _ (lt_of_block HRH1.out)).trans HRH1.out)
 have HNL : Hid (∀ W, Below w1b.heap.size w1b W → W.rangeAt w1.heap.size 2 ll ∧ w1.heap.size < W.heap.size) := Lib.hid (fun W hW => by have := cnotice_box (HN1.out W hW) HXF.out; rw [HLV.out] at this; exact ⟨this.2.2.1, this.2.2.2.2⟩)
 by_cases hk0 : se = 0
 · have HSE := Lib.hid hk0
   subst hk0
   have HA2 : Hid (er = if za < 0 ∨ ii = false then 12 else if (if be ≠ 0 then be else ce) ≠ 0 then (if be ≠ 0 then be else ce) else pe) := Lib.hid (by rw [HA.out, if_neg (by simp)])
   go_upto_region 4 with (first
    | (refine wpList_store_row rfl 42 (.tmp 6) (.tmp 18) rfl w1.heap.size X.toArray rfl rfl _ _ HBXH1.out (HSNO.out _ HXF.out) (HOO.out _ HXF.out) (HOC.out _ HXF.out) ?_; rw [← HWH1.out])
    | fail)
   have y1 : ∀ X : BW w1b, X.W.cell? ⟨w.heap.size + 1, 1, none⟩ = some (.string ci) := fun X => (HCHX.out _ (H1.out.trans (X.h.mono H1.out.size))).2.1
   have hsl := slice_all w1.heap.size 2
   have CLX : Hid (∀ X : BW w1b, Calls Tryz.prog 67 #[.slice (some ⟨w1.heap.size, 2, none⟩) 8 8, .string ci] X.W fun e w' => e = .returned (.int .i64 za) ∧ Below X.W.heap.size X.W w') := Lib.hid (fun X => by
    obtain ⟨g1, g2⟩ := HNL.out _ X.h
    have := clineOf (some ⟨w1.heap.size, 2, none⟩) 8 8 (lnsL ll 8) ci X.W (lnsL_len ll 8).symm (by omega) (lnsL_things ll 8) (lines_rd HLF.out g1 g2 (by omega))
    rw [lineI_first, HKZ.out.2] at this
    exact this)
   go_wp2_with fail
   refine wp_grow w1b (by kernel_rfl) (by kernel_rfl) (Below.refl _ _) ?_
   simp only []
   iterate 4 go_big_quiet_step (fail)
   go_big_quiet_step (exact grow_call _ (CLX.out _))
   go_big_quiet_step (fail)
   refine wpQuiet_nil ?_
   intro X
   obtain ⟨w2, hb2⟩ := X
   simp only []
   have H2 := Lib.hid (H1.out.trans (hb2.mono H1.out.size))
   have HX2 := Lib.hid hb2
   clear hb2 y1 hsl CLX
   obtain ⟨x0, x1, x2, x3, x4, x5, xlt⟩ := HCHX.out _ H2.out
   go_wp2_with (first
    | (refine wpList_load_row rfl 37 (.tmp 2) rfl w.heap.size rfl _ _ _ _ (HH.out _ H2.out) huh rfl (HSH.out _) ?_)
    | fail)
   refine (CI.out _ (HBW.out _ H2.out).1).mono ?_
   rintro e w3 ⟨rfl, hb3⟩
   have H3 := Lib.hid (H2.out.trans (hb3.mono H2.out.size))
   have HX3 := Lib.hid (HX2.out.trans (hb3.mono HX2.out.size))
   clear hb3
   clear x0 x1 x2 x3 x4 x5 xlt
   obtain ⟨w4, hw4⟩ : ∃ W, W = w3.alloc (.cells #[.string x.code, .string (x.nm 0), .int .i64 (x.fc 0), .string (x.nm 1), .int .i64 (x.fc 1), .string (x.nm 2), .int .i64 (x.fc 2), .string (x.nm 3), .int .i64 (x.fc 3), .int .i64 x.vol, .int .i64 x.wei, .bool x.lots, .bool x.serial, .bool x.chk] 87) := ⟨_, rfl⟩
   have H4 : Hid (Below _ _ w4) := Lib.hid (by rw [hw4]; exact H3.out.alloc H3.out.size _)
   have HX4 : Hid (Below w1b.heap.size w1b w4) := Lib.hid (by rw [hw4]; exact HX3.out.alloc HX3.out.size _)
   have HI4 : Hid (∀ W, Below w4.heap.size w4 W → W.heap[w3.heap.size]? = some (.cells #[.string x.code, .string (x.nm 0), .int .i64 (x.fc 0), .string (x.nm 1), .int .i64 (x.fc 1), .string (x.nm 2), .int .i64 (x.fc 2), .string (x.nm 3), .int .i64 (x.fc 3), .int .i64 x.vol, .int .i64 x.wei, .bool x.lots, .bool x.serial, .bool x.chk] 87 (0, 0))) := Lib.hid (fun W hW => (hW.block _ (by rw [hw4]; simp)).trans (by rw [hw4]; exact heap_alloc_new _ _))
   have HW4 := Lib.hid hw4
   clear hw4
   go_upto_region 6 with fail
   rw [← HW4.out]
   have hcs := downI_cases (forB ll ci) 8 (Nat.le_refl _)
   rw [show downI (forB ll ci) 8 = za from HKZ.out.2] at hcs
   rcases hcs with hm | ⟨j, hj8, _, hm, _⟩
   · subst hm
     have HE : Hid (er = 12) := Lib.hid (by rw [HA2.out, if_pos (.inl (by decide))])
     go_wp2_with (first
      | (refine wpList_store_row rfl 37 (.tmp 4) (.tmp 42) rfl (w.heap.size + 2) Hs.zero rfl rfl _ _ (HZ.out _ H4.out) HSQ.out rfl H1Q.out ?_)
      | fail)
     exact bodyPost_ret (results_row_tmp rfl _ _ (w.heap.size + 2) _ _ _ _ rfl (setRow_heap _ _ _ _ _ _ (HZ.out _ H4.out)) huh rfl HSQ.out) rfl (by
      have hne : er ≠ 0 := by rw [HE.out]; decide
      rw [HE.out] at hne ⊢
      exact HouseP.bad hne (setRow_below (HBW.out _ H4.out).1 (show w.heap.size ≤ w.heap.size + 2 by omega) Hs.zero))
   · subst hm
     have hkj : k = j := by rw [← HKZ.out.1]; rfl
     have i1 : (0 : Int) ≤ (j : Int) := by omega
     have i2 : (j : Int) < 8 := by omega
     have HKJ := Lib.hid hkj
     have HJ8 := Lib.hid hj8
     clear hkj
     cases ii with
     | false =>
      have HE : Hid (er = 12) := Lib.hid (by rw [HA2.out, if_pos (.inr rfl)])
      have i0 : ((j : Int) < 0) = False := by simp
      go_wp2_with (first
       | (refine wpList_store_row rfl 37 (.tmp 4) (.tmp 42) rfl (w.heap.size + 2) Hs.zero rfl rfl _ _ (HZ.out _ H4.out) HSQ.out rfl H1Q.out ?_)
       | fail)
      exact bodyPost_ret (results_row_tmp rfl _ _ (w.heap.size + 2) _ _ _ _ rfl (setRow_heap _ _ _ _ _ _ (HZ.out _ H4.out)) huh rfl HSQ.out) rfl (by
       have hne : er ≠ 0 := by rw [HE.out]; decide
       rw [HE.out] at hne ⊢
       exact HouseP.bad hne (setRow_below (HBW.out _ H4.out).1 (show w.heap.size ≤ w.heap.size + 2 by omega) Hs.zero))
     | true =>
      have HA3 : Hid (er = if (if be ≠ 0 then be else ce) ≠ 0 then (if be ≠ 0 then be else ce) else pe) := Lib.hid (by rw [HA2.out, if_neg (by simp)])
      go_upto_region 8 with fail
      obtain ⟨x0, x1, x2, x3, x4, x5, xlt⟩ := HCHX.out _ H4.out
      go_wp2_with (first
       | (refine wpList_load_row rfl 87 (.tmp 9) rfl w3.heap.size rfl _ _ _ _ (HI4.out _ (Below.refl _ _)) huIT rfl HSIT.out ?_)
       | fail)
      refine (CB.out _).mono ?_
      rintro e w5 ⟨rfl, hb5⟩
      have H5 := Lib.hid (H4.out.trans (hb5.mono H4.out.size))
      have HI5 := Lib.hid hb5
      clear hb5
      clear x0 x1 x2 x3 x4 x5 xlt
      by_cases hk0 : be = 0
      · subst hk0
        have HA4 : Hid (er = if ce ≠ 0 then ce else pe) := Lib.hid (by rw [HA3.out]; rfl)
        have HN5 := Lib.hid (HX4.out.trans (HI5.out.mono HX4.out.size))
        go_wp2_with (first
         | (refine wpList_load_row rfl 37 (.tmp 2) rfl w.heap.size rfl _ _ _ _ (HH.out _ H5.out) huh rfl (HSH.out _) ?_)
         | (refine wpList_load_row rfl 54 (.tmp 3) rfl (w.heap.size + 1) rfl _ _ _ _ (HX.out _ H5.out) huHX rfl HSHX.out ?_)
         | (refine wpList_load_row rfl 42 (.tmp 6) rfl w1.heap.size rfl _ _ _ _ (HN1.out _ HN5.out) huNO rfl (HSNO.out _ HXF.out) ?_)
         | fail)
        have cc := CC.out (by rw [HKJ.out]; exact HJ8.out) _ (HBW.out _ H5.out).1
        rw [HKJ.out] at cc
        refine cc.mono ?_
        clear cc
        rintro e w6 ⟨rfl, hb6⟩
        have H6 := Lib.hid (H5.out.trans (hb6.mono H5.out.size))
        have HI6 := Lib.hid (HI5.out.trans (hb6.mono HI5.out.size))
        clear hb6
        by_cases hk0 : ce = 0
        · subst hk0
          have HA5 : Hid (er = pe) := Lib.hid (by rw [HA4.out]; rfl)
          have HN6 := Lib.hid (HX4.out.trans (HI6.out.mono HX4.out.size))
          go_wp2_with fail
          have HST : Hid (∀ W, Below w6.heap.size w6 W → W.rangeAt w.heap.size 0 h.cells.toList ∧ W.cell? ⟨w.heap.size + 1, 5, none⟩ = some (.string cd) ∧ W.cell? ⟨w.heap.size + 1, 1, none⟩ = some (.string ci) ∧ W.cell? ⟨w.heap.size + 1, 4, none⟩ = some (.string cl) ∧ W.rangeAt w3.heap.size 0 [.string x.code, .string (x.nm 0), .int .i64 (x.fc 0), .string (x.nm 1), .int .i64 (x.fc 1), .string (x.nm 2), .int .i64 (x.fc 2), .string (x.nm 3), .int .i64 (x.fc 3), .int .i64 x.vol, .int .i64 x.wei, .bool x.lots, .bool x.serial, .bool x.chk]) := Lib.hid (fun W hW => ⟨range_row0 (HH.out _ (H6.out.trans (hW.mono H6.out.size))), (by rw [cell_of_block (HX.out _ (H6.out.trans (hW.mono H6.out.size)))]; rfl), (by rw [cell_of_block (HX.out _ (H6.out.trans (hW.mono H6.out.size)))]; rfl), (by rw [cell_of_block (HX.out _ (H6.out.trans (hW.mono H6.out.size)))]; rfl), range_row0 (HI4.out _ (HI6.out.trans (hW.mono HI6.out.size)))⟩)
          have BN0 := Lib.hid (Below.refl w6.heap.size w6).drew
          refine lastN_region (S := (fun w' => w'.rangeAt w.heap.size 0 h.cells.toList ∧ w'.cell? ⟨w.heap.size + 1, 5, none⟩ = some (.string cd) ∧ w'.cell? ⟨w.heap.size + 1, 1, none⟩ = some (.string ci) ∧ w'.cell? ⟨w.heap.size + 1, 4, none⟩ = some (.string cl) ∧ w'.rangeAt w3.heap.size 0 [.string x.code, .string (x.nm 0), .int .i64 (x.fc 0), .string (x.nm 1), .int .i64 (x.fc 1), .string (x.nm 2), .int .i64 (x.fc 2), .string (x.nm 3), .int .i64 (x.fc 3), .int .i64 x.vol, .int .i64 x.wei, .bool x.lots, .bool x.serial, .bool x.chk])) (n := 15) (by kernel_rfl) ?_
          refine LastN.take (i := 0) (v := .agg h.cells) rfl (by kernel_rfl) (by kernel_rfl) (by kernel_rfl) (by kernel_rfl) (by kernel_rfl) (by decide) (fun _ _ _ h => h.elim) (yieldsIf_load_mid (by kernel_rfl) 37 (.tmp 2) rfl w.heap.size 0 rfl h.cells.toList _ (fun w h => h.1) huh rfl (HSHL.out _)) (HST.out _ BN0.out) ?_
          (try simp only [ax])
          refine LastN.pure (i := 1) (v := .pointer (some ⟨w.heap.size + 1, 5, none⟩)) rfl (by kernel_rfl) (by kernel_rfl) (by kernel_rfl) (by decide) (fun _ _ _ h => h.elim) (.inl ⟨by kernel_rfl, fun w hw => by clear hw; go_simp⟩) (fun _ => HST.out _ BN0.out) ?_
          (try simp only [ax])
          refine LastN.take (i := 2) (v := .string cd) rfl (by kernel_rfl) (by kernel_rfl) (by kernel_rfl) (by kernel_rfl) (by kernel_rfl) (by decide) (fun _ _ _ h => h.elim) (.inl ⟨by kernel_rfl, fun w h => by have hw := h.2.1; clear h; go_simp⟩) (HST.out _ BN0.out) ?_
          (try simp only [ax])
          refine LastN.pure (i := 3) (v := .pointer (some ⟨w.heap.size + 1, 1, none⟩)) rfl (by kernel_rfl) (by kernel_rfl) (by kernel_rfl) (by decide) (fun _ _ _ h => h.elim) (.inl ⟨by kernel_rfl, fun w hw => by clear hw; go_simp⟩) (fun _ => HST.out _ BN0.out) ?_
          (try simp only [ax])
          refine LastN.take (i := 4) (v := .string ci) rfl (by kernel_rfl) (by kernel_rfl) (by kernel_rfl) (by kernel_rfl) (by kernel_rfl) (by decide) (fun _ _ _ h => h.elim) (.inl ⟨by kernel_rfl, fun w h => by have hw := h.2.2.1; clear h; go_simp⟩) (HST.out _ BN0.out) ?_
          (try simp only [ax])
          refine LastN.pure (i := 5) (v := .pointer (some ⟨w.heap.size + 1, 4, none⟩)) rfl (by kernel_rfl) (by kernel_rfl) (by kernel_rfl) (by decide) (fun _ _ _ h => h.elim) (.inl ⟨by kernel_rfl, fun w hw => by clear hw; go_simp⟩) (fun _ => HST.out _ BN0.out) ?_
          (try simp only [ax])
          refine LastN.take (i := 6) (v := .string cl) rfl (by kernel_rfl) (by kernel_rfl) (by kernel_rfl) (by kernel_rfl) (by kernel_rfl) (by decide) (fun _ _ _ h => h.elim) (.inl ⟨by kernel_rfl, fun w h => by have hw := h.2.2.2.1; clear h; go_simp⟩) (HST.out _ BN0.out) ?_
          (try simp only [ax])
          refine LastN.take (i := 7) (v := .agg #[.string x.code, .string (x.nm 0), .int .i64 (x.fc 0), .string (x.nm 1), .int .i64 (x.fc 1), .string (x.nm 2), .int .i64 (x.fc 2), .string (x.nm 3), .int .i64 (x.fc 3), .int .i64 x.vol, .int .i64 x.wei, .bool x.lots, .bool x.serial, .bool x.chk]) rfl (by kernel_rfl) (by kernel_rfl) (by kernel_rfl) (by kernel_rfl) (by kernel_rfl) (by decide) (fun _ _ _ h => h.elim) (yieldsIf_load_mid (by kernel_rfl) 87 (.tmp 9) rfl w3.heap.size 0 rfl [.string x.code, .string (x.nm 0), .int .i64 (x.fc 0), .string (x.nm 1), .int .i64 (x.fc 1), .string (x.nm 2), .int .i64 (x.fc 2), .string (x.nm 3), .int .i64 (x.fc 3), .int .i64 x.vol, .int .i64 x.wei, .bool x.lots, .bool x.serial, .bool x.chk] _ (fun w h => h.2.2.2.2) huIT rfl HSIL.out) (HST.out _ BN0.out) ?_
          (try simp only [ax])
          refine LastN.pure (i := 10) (v := .int .i64 q) rfl (by kernel_rfl) (by kernel_rfl) (by kernel_rfl) (by decide) (fun _ _ _ h => h.elim) (.inl ⟨by kernel_rfl, fun w hw => by clear hw; go_simp⟩) (fun _ => HST.out _ BN0.out) ?_
          (try simp only [ax])
          refine LastN.one (i := 8) (by kernel_rfl) rfl (fun K hK => ?_)
          go_simp
          refine (CST.out _).mono ?_
          rintro e w7 ⟨rfl, hbn⟩
          have BN7 := Lib.hid (BN0.out.trans (hbn.mono BN0.out.size))
          clear hbn
          refine hK.out _ _ (fun _ _ => HST.out _ BN7.out) (fun _ => ?_)
          clear hK K
          (try simp only [ax])
          refine LastN.pure (i := 9) (v := .agg #[.string cd, .string ci, .string cl, .int .i64 st]) rfl (by kernel_rfl) (by kernel_rfl) (by kernel_rfl) (by decide) (fun _ _ _ h => h.elim) (.inl ⟨by kernel_rfl, fun w hw => by clear hw; go_simp⟩) (fun _ => HST.out _ BN7.out) ?_
          (try simp only [ax])
          refine LastN.one (i := 11) (by kernel_rfl) rfl (fun K hK => ?_)
          go_simp
          refine (CP.out _ (HBW.out _ (H6.out.trans ((BN7.out).mono H6.out.size))).1).mono ?_
          intro e w8 hpp
          obtain ⟨hbn, g, rfl, hgk⟩ := hpp.k
          have BN8 := Lib.hid (BN7.out.trans (hbn.mono BN7.out.size))
          have HGK := Lib.hid hgk
          have HS78 := Lib.hid hbn.size
          clear hgk hpp
          clear hbn
          refine hK.out _ _ (fun _ _ => HST.out _ BN8.out) (fun _ => ?_)
          clear hK K
          (try simp only [ax])
          refine LastN.pure (i := 12) (v := .tuple #[.agg g.cells, .int .i64 (pe : Nat)]) rfl (by kernel_rfl) (by kernel_rfl) (by kernel_rfl) (by decide) (fun _ _ _ h => h.elim) (.inl ⟨by kernel_rfl, fun w hw => by clear hw; go_simp⟩) (fun _ => HST.out _ BN8.out) ?_
          (try simp only [ax])
          refine LastN.pure (i := 13) (v := .agg g.cells) rfl (by kernel_rfl) (by kernel_rfl) (by kernel_rfl) (by decide) (fun _ _ _ h => h.elim) (.inl ⟨by kernel_rfl, fun w hw => by clear hw; go_simp⟩) (fun _ => HST.out _ BN8.out) ?_
          (try simp only [ax])
          refine LastN.pure (i := 14) (v := .int .i64 (pe : Nat)) rfl (by kernel_rfl) (by kernel_rfl) (by kernel_rfl) (by decide) (fun _ _ _ h => h.elim) (.inl ⟨by kernel_rfl, fun w hw => by clear hw; go_simp⟩) (fun _ => HST.out _ BN8.out) ?_
          (try simp only [ax])
          have H8 := Lib.hid (H6.out.trans (BN8.out.mono H6.out.size))
          have H7 := Lib.hid (H6.out.trans (BN7.out.mono H6.out.size))
          have HH8 := Lib.hid (HH.out _ H8.out)
          have HN8 := Lib.hid (HX4.out.trans ((HI6.out.trans (BN8.out.mono HI6.out.size)).mono HX4.out.size))
          have HN7 := Lib.hid (HX4.out.trans ((HI6.out.trans (BN7.out.mono HI6.out.size)).mono HX4.out.size))
          have HGB : Hid (w.heap.size + 3 ≤ w7.heap.size ∧ w1.heap.size < w7.heap.size) := Lib.hid ⟨(HBW.out _ H7.out).2, (HNL.out _ HN7.out).2⟩
          have HGT : Hid (HT g (setE pe L 4 l4) w8) := Lib.hid (HGK.out.htl (by decide) HL4.out.1 HL4.out.2 (HHT.out.below (HBW.out _ H8.out).1))
          have HGO : Hid (∀ o, w.heap.size ≤ o → o < w7.heap.size → Off o g (setE pe L 4 l4)) := Lib.hid (fun o h1 h2 => HGK.out.off h2 (HOH.out o h1))
          refine LastN.one (i := 15) (by kernel_rfl) rfl (fun K hK => ?_)
          rw [if_pos (by kernel_rfl)]
          refine wp_store_row 37 (.tmp 2) (.tmp 79) rfl w.heap.size g.cells rfl rfl _ _ HH8.out (HSH.out _) rfl (H1C.out _) ?_
          obtain ⟨w9, hw9⟩ : ∃ W, W = w8.setRow w.heap.size g.cells := ⟨_, rfl⟩
          have HG9 : Hid (w9.heap[w.heap.size]? = some (.cells g.cells 37 (0, 0))) := Lib.hid (by rw [hw9]; exact setRow_heap _ _ _ _ _ _ HH8.out)
          have HX9 : Hid (w9.heap[w.heap.size + 1]? = some (.cells #[.string cn, .string ci, .string cu, .int .i64 n, .string cl, .string cd] 54 (0, 0))) := Lib.hid (by rw [hw9]; exact (setRow_other _ _ _ _ (by omega)).trans (HX.out _ H8.out))
          have HZ9 : Hid (w9.heap[w.heap.size + 2]? = some (.cells Hs.zero 37 (0, 0))) := Lib.hid (by rw [hw9]; exact (setRow_other _ _ _ _ (by omega)).trans (HZ.out _ H8.out))
          have HNE1 : Hid (w.heap.size + 3 ≤ w1.heap.size) := Lib.hid (HBW.out _ HPH1.out).2
          have HN9 : Hid (w9.heap[w1.heap.size]? = some (.cells X.toArray 42 (0, 0))) := Lib.hid (by rw [hw9]; exact (setRow_other _ _ _ _ (by have := HNE1.out; omega)).trans (HN1.out _ HN8.out))
          have HB9 : Hid (Below w.heap.size w w9) := Lib.hid (by rw [hw9]; exact setRow_below (HBW.out _ H8.out).1 (Nat.le_refl _) _)
          have HT9 : Hid (HT g (setE pe L 4 l4) w9) := Lib.hid (by rw [hw9]; exact HGT.out.setRowOff (HGO.out _ (Nat.le_refl _) (by have := HGB.out; omega)) _)
          have HS9 : Hid (w7.heap.size ≤ w9.heap.size) := Lib.hid (by rw [hw9]; simpa using HS78.out)
          rw [← hw9]
          have HW9 := Lib.hid hw9
          clear hw9
          refine hK.out _ _ (fun _ h => absurd rfl h) (fun _ => ?_)
          clear hK K
          (try simp only [Act.put, List.getElem_toArray, List.getElem_cons_succ, List.getElem_cons_zero])
          refine LastN.one (i := 16) (by kernel_rfl) rfl (fun K hK => ?_)
          go_simp
          refine hK.out _ _ (fun h => absurd h (by decide)) (fun _ => ?_)
          clear hK K
          (try simp only [ax])
          refine LastN.done (by kernel_rfl) ?_ _
          refine NoPanic.normal ?_
          clear HST
          by_cases hk0 : pe = 0
          · have HPE := Lib.hid hk0
            subst hk0
            have HE : Hid (er = 0) := HA5
            obtain ⟨⟨yi, ya, yg, yb, yp, yo⟩, hy⟩ : ∃ z, lnAt ll j = z := ⟨_, rfl⟩
            have r1 := line_at HLF.out (by have := cnotice_box HN9.out HXF.out; rw [HLV.out] at this; exact this.2.2.1) HJ8.out
            rw [hy] at r1
            have g2 : w9.cell? ⟨w1.heap.size, 2 + j * 6 + 2, none⟩ = some (.int .i64 yg) := r1 2 (.int .i64 yg) rfl
            have glt : w1.heap.size < w9.heap.size := lt_of_block HN9.out
            have gfz : w9.frozen? ⟨w1.heap.size, 2 + j * 6 + 2, none⟩ = false := frozen_of_block HN9.out
            have HAN : Hid (addN X k q = X.set (2 + j * 6 + 2) (.int .i64 (wrap64 (yg + q)))) := Lib.hid (by unfold addN; rw [HLV.out, HKJ.out, hy])
            clear r1 hy
            obtain ⟨w10, hw10⟩ : ∃ W, W = w9.setCell ⟨w1.heap.size, 2 + j * 6 + 2, none⟩ (.int .i64 (wrap64 (yg + q))) := ⟨_, rfl⟩
            have HN10 : Hid (w10.heap[w1.heap.size]? = some (.cells (addN X k q).toArray 42 (0, 0))) := Lib.hid (by rw [hw10, block_setCell HN9.out, HAN.out]; simp)
            have HG10 : Hid (w10.heap[w.heap.size]? = some (.cells g.cells 37 (0, 0))) := Lib.hid (by rw [hw10]; exact (block_setCell_other (by have := HNE1.out; omega) _).trans HG9.out)
            have HX10 : Hid (w10.heap[w.heap.size + 1]? = some (.cells #[.string cn, .string ci, .string cu, .int .i64 n, .string cl, .string cd] 54 (0, 0))) := Lib.hid (by rw [hw10]; exact (block_setCell_other (by have := HNE1.out; omega) _).trans HX9.out)
            have HZ10 : Hid (w10.heap[w.heap.size + 2]? = some (.cells Hs.zero 37 (0, 0))) := Lib.hid (by rw [hw10]; exact (block_setCell_other (by have := HNE1.out; omega) _).trans HZ9.out)
            have HB10 : Hid (Below w.heap.size w w10) := Lib.hid (by rw [hw10]; exact HB9.out.setCell (by have := HNE1.out; show w.heap.size ≤ w1.heap.size; omega) _)
            have HT10 : Hid (HT g (setE 0 L 4 l4) w10) := Lib.hid (by rw [hw10]; exact HT9.out.setCellOff (HGO.out _ (by have := HNE1.out; omega) HGB.out.2) _)
            have HS10 : Hid (w7.heap.size ≤ w10.heap.size) := Lib.hid (by rw [hw10]; simpa [World.setCell] using HS9.out)
            have HCG : Hid (Caps g) := Lib.hid (HGK.out.caps HCAP.out)
            have HW10 := Lib.hid hw10
            clear hw10
            go_upto_region 18 with fail
            rw [← HW10.out]
            clear g2 glt gfz
            go_wp2_with fail
            have HST : Hid (∀ W, Below w10.heap.size w10 W → W.rangeAt w.heap.size 0 g.cells.toList ∧ W.rangeAt w1.heap.size 0 (addN X k q) ∧ W.cell? ⟨w.heap.size + 1, 1, none⟩ = some (.string ci) ∧ W.cell? ⟨w.heap.size + 1, 4, none⟩ = some (.string cl)) := Lib.hid (fun W hW => ⟨range_row0 ((hW.block _ (lt_of_block HG10.out)).trans HG10.out), range_row0 ((hW.block _ (lt_of_block HN10.out)).trans HN10.out), (by rw [cell_of_block ((hW.block _ (lt_of_block HX10.out)).trans HX10.out)]; rfl), (by rw [cell_of_block ((hW.block _ (lt_of_block HX10.out)).trans HX10.out)]; rfl)⟩)
            have BN0 := Lib.hid (Below.refl w10.heap.size w10).drew
            refine lastN_region (S := (fun w' => w'.rangeAt w.heap.size 0 g.cells.toList ∧ w'.rangeAt w1.heap.size 0 (addN X k q) ∧ w'.cell? ⟨w.heap.size + 1, 1, none⟩ = some (.string ci) ∧ w'.cell? ⟨w.heap.size + 1, 4, none⟩ = some (.string cl))) (n := 9) (by kernel_rfl) ?_
            refine LastN.take (i := 0) (v := .agg g.cells) rfl (by kernel_rfl) (by kernel_rfl) (by kernel_rfl) (by kernel_rfl) (by kernel_rfl) (by decide) (fun _ _ _ h => h.elim) (yieldsIf_load_mid (by kernel_rfl) 37 (.tmp 2) rfl w.heap.size 0 rfl g.cells.toList _ (fun w h => h.1) huh rfl (HSHL.out _)) (HST.out _ BN0.out) ?_
            (try simp only [ax])
            refine LastN.take (i := 1) (v := .agg (addN X k q).toArray) rfl (by kernel_rfl) (by kernel_rfl) (by kernel_rfl) (by kernel_rfl) (by kernel_rfl) (by decide) (fun _ _ _ h => h.elim) (yieldsIf_load_mid (by kernel_rfl) 42 (.tmp 6) rfl w1.heap.size 0 rfl (addN X k q) _ (fun w h => h.2.1) huNO rfl HSNL.out) (HST.out _ BN0.out) ?_
            (try simp only [ax])
            refine LastN.pure (i := 3) (v := .pointer (some ⟨w.heap.size + 1, 1, none⟩)) rfl (by kernel_rfl) (by kernel_rfl) (by kernel_rfl) (by decide) (fun _ _ _ h => h.elim) (.inl ⟨by kernel_rfl, fun w hw => by clear hw; go_simp⟩) (fun _ => HST.out _ BN0.out) ?_
            (try simp only [ax])
            refine LastN.take (i := 4) (v := .string ci) rfl (by kernel_rfl) (by kernel_rfl) (by kernel_rfl) (by kernel_rfl) (by kernel_rfl) (by decide) (fun _ _ _ h => h.elim) (.inl ⟨by kernel_rfl, fun w h => by have hw := h.2.2.1; clear h; go_simp⟩) (HST.out _ BN0.out) ?_
            (try simp only [ax])
            refine LastN.pure (i := 5) (v := .pointer (some ⟨w.heap.size + 1, 4, none⟩)) rfl (by kernel_rfl) (by kernel_rfl) (by kernel_rfl) (by decide) (fun _ _ _ h => h.elim) (.inl ⟨by kernel_rfl, fun w hw => by clear hw; go_simp⟩) (fun _ => HST.out _ BN0.out) ?_
            (try simp only [ax])
            refine LastN.take (i := 6) (v := .string cl) rfl (by kernel_rfl) (by kernel_rfl) (by kernel_rfl) (by kernel_rfl) (by kernel_rfl) (by decide) (fun _ _ _ h => h.elim) (.inl ⟨by kernel_rfl, fun w h => by have hw := h.2.2.2; clear h; go_simp⟩) (HST.out _ BN0.out) ?_
            (try simp only [ax])
            refine LastN.pure (i := 7) (v := .int .i64 q) rfl (by kernel_rfl) (by kernel_rfl) (by kernel_rfl) (by decide) (fun _ _ _ h => h.elim) (.inl ⟨by kernel_rfl, fun w hw => by clear hw; go_simp⟩) (fun _ => HST.out _ BN0.out) ?_
            (try simp only [ax])
            refine LastN.one (i := 2) (by kernel_rfl) rfl (fun K hK => ?_)
            go_simp
            refine (CN.out g _ _ (HT10.out.below BN0.out) HCG.out rfl).mono ?_
            rintro e w11 ⟨hbn, A6, n6, c6, hl6, ho6, rfl⟩
            have BN11 := Lib.hid (BN0.out.trans (hbn.mono BN0.out.size))
            have HK6 : Hid (PutK 42 51 6 0 l6 g (g.set 6 A6 n6 c6) w10.drew.heap.size w11) := Lib.hid (.inr ⟨rfl, A6, n6, c6, hl6, ho6, rfl⟩)
            obtain ⟨g6, hg6⟩ : ∃ z, g.set 6 A6 n6 c6 = z := ⟨_, rfl⟩
            rw [hg6] at HK6 ⊢
            have HT6 := Lib.hid (HK6.out.htl (by decide) HL6.out.1 HL6.out.2 (HT10.out.below BN11.out))
            have HC6 := Lib.hid (HK6.out.caps HCG.out)
            have HZ6 : Hid (g6.z = zE 0 h.z) := Lib.hid (by rw [← hg6]; rcases HGK.out with ⟨h1, _⟩ | ⟨_, A, m4, c4, _, _, rfl⟩; exact absurd rfl h1; rfl)
            clear hl6 ho6 hg6
            clear hbn
            refine hK.out _ _ (fun _ _ => HST.out _ BN11.out) (fun _ => ?_)
            clear hK K
            (try simp only [ax])
            refine LastN.one (i := 8) (by kernel_rfl) rfl (fun K hK => ?_)
            go_simp
            refine (CT.out g6 _ _ HT6.out HC6.out rfl).mono ?_
            rintro e w12 ⟨hbn, A3, n3, c3, hl3, ho3, rfl⟩
            have BN12 := Lib.hid (BN11.out.trans (hbn.mono BN11.out.size))
            have HK3 : Hid (PutK 75 6 13 0 l13 g6 (g6.set 13 A3 n3 c3) w11.heap.size w12) := Lib.hid (.inr ⟨rfl, A3, n3, c3, hl3, ho3, rfl⟩)
            have hz3 : (g6.set 13 A3 n3 c3).z = g6.z := rfl
            obtain ⟨g3, hg3⟩ : ∃ z, g6.set 13 A3 n3 c3 = z := ⟨_, rfl⟩
            rw [hg3] at HK3 hz3 ⊢
            have HT3 := Lib.hid (HK3.out.htl (by decide) HL13.out.1 HL13.out.2 (HT6.out.below hbn))
            have HZ3 := Lib.hid hz3
            clear hl3 ho3 hg3 hz3
            clear hbn
            refine hK.out _ _ (fun _ _ => HST.out _ BN12.out) (fun _ => ?_)
            clear hK K
            (try simp only [ax])
            have HZ12 := Lib.hid ((BN12.out.block _ (lt_of_block HZ10.out)).trans HZ10.out)
            have HB12 := Lib.hid (HB10.out.trans (BN12.out.mono HB10.out.size))
            have HOF : Hid (∀ o, Off o h L → o < w7.heap.size → Off o g3 (setE 0 (setE 0 (setE 0 L 4 l4) 6 l6) 13 l13)) := Lib.hid (fun o ho hl => HK3.out.off (Nat.lt_of_lt_of_le hl (Nat.le_trans HS10.out BN11.out.size)) (HK6.out.off (Nat.lt_of_lt_of_le hl HS10.out) (HGK.out.off hl ho)))
            refine LastN.one (i := 9) (by kernel_rfl) rfl (fun K hK => ?_)
            rw [if_pos (by kernel_rfl)]
            refine wp_store_row 37 (.tmp 4) (.tmp 103) rfl (w.heap.size + 2) g3.cells rfl rfl _ _ HZ12.out (HSH.out _) rfl (H1C.out _) ?_
            skip
            refine hK.out _ _ (fun _ h => absurd rfl h) (fun _ => ?_)
            clear hK K
            (try simp only [Act.put, List.getElem_toArray, List.getElem_cons_succ, List.getElem_cons_zero])
            refine LastN.one (i := 10) (by kernel_rfl) rfl (fun K hK => ?_)
            go_simp
            refine hK.out _ _ (fun h => absurd h (by decide)) (fun _ => ?_)
            clear hK K
            (try simp only [ax])
            refine LastN.done (by kernel_rfl) ?_ _
            refine NoPanic.normal ?_
            clear HST
            have hM2 : setX 0 M = setE 0 (setE 0 (setE 0 L 4 l4) 6 l6) 13 l13 := by rw [setX_ok rfl]; funext i; exact (HM.out HSE.out i).symm
            go_wp2_with fail
            exact bodyPost_ret (results_row_tmp rfl _ _ (w.heap.size + 2) _ _ _ _ rfl (setRow_heap _ _ _ _ _ _ HZ12.out) huh rfl (HSH.out _)) rfl (by
             rw [HE.out]
             refine ⟨setRow_below HB12.out (show w.heap.size ≤ w.heap.size + 2 by omega) _, g3, rfl, ?_, ?_, fun hc => HK3.out.caps (HK6.out.caps (HGK.out.caps hc)), fun o ho hl => ?_⟩
             · rw [hM2]; exact HT3.out.setRowOff (HOF.out _ (HOH.out _ (by omega)) (by have := HGB.out.1; omega)) _
             · rw [HZ3.out]; exact HZ6.out
             · rw [hM2]; exact HOF.out o ho (by have := HGB.out.1; omega))
          · have bn : ((pe : Int) != 0) = true := by simpa using hk0
            have HKL := Lib.hid hk0
            have HE : Hid (er = pe) := HA5
            clear hk0
            go_wp2_with (first
             | (refine wpList_store_row rfl 37 (.tmp 4) (.tmp 83) rfl (w.heap.size + 2) Hs.zero rfl rfl _ _ HZ9.out HSQ.out rfl H1Q.out ?_)
             | fail)
            exact bodyPost_ret (results_row_tmp rfl _ _ (w.heap.size + 2) _ _ _ _ rfl (setRow_heap _ _ _ _ _ _ HZ9.out) huh rfl HSQ.out) rfl (by
             have hne : er ≠ 0 := by rw [HE.out]; exact HKL.out
             rw [HE.out] at hne ⊢
             exact HouseP.bad hne (setRow_below HB9.out (show w.heap.size ≤ w.heap.size + 2 by omega) Hs.zero))
        · have bn : ((ce : Int) != 0) = true := by simpa using hk0
          have HKL := Lib.hid hk0
          have HE : Hid (er = ce) := Lib.hid (by rw [HA4.out]; simp [hk0])
          clear hk0
          go_wp2_with (first
           | (refine wpList_store_row rfl 37 (.tmp 4) (.tmp 64) rfl (w.heap.size + 2) Hs.zero rfl rfl _ _ (HZ.out _ H6.out) HSQ.out rfl H1Q.out ?_)
           | fail)
          exact bodyPost_ret (results_row_tmp rfl _ _ (w.heap.size + 2) _ _ _ _ rfl (setRow_heap _ _ _ _ _ _ (HZ.out _ H6.out)) huh rfl HSQ.out) rfl (by
           have hne : er ≠ 0 := by rw [HE.out]; exact HKL.out
           rw [HE.out] at hne ⊢
           exact HouseP.bad hne (setRow_below (HBW.out _ H6.out).1 (show w.heap.size ≤ w.heap.size + 2 by omega) Hs.zero))
      · have bn : ((be : Int) != 0) = true := by simpa using hk0
        have HKL := Lib.hid hk0
        have HE : Hid (er = be) := Lib.hid (by rw [HA3.out]; simp [hk0])
        clear hk0
        go_wp2_with (first
         | (refine wpList_store_row rfl 37 (.tmp 4) (.tmp 54) rfl (w.heap.size + 2) Hs.zero rfl rfl _ _ (HZ.out _ H5.out) HSQ.out rfl H1Q.out ?_)
         | fail)
        exact bodyPost_ret (results_row_tmp rfl _ _ (w.heap.size + 2) _ _ _ _ rfl (setRow_heap _ _ _ _ _ _ (HZ.out _ H5.out)) huh rfl HSQ.out) rfl (by
         have hne : er ≠ 0 := by rw [HE.out]; exact HKL.out
         rw [HE.out] at hne ⊢
         exact HouseP.bad hne (setRow_below (HBW.out _ H5.out).1 (show w.heap.size ≤ w.heap.size + 2 by omega) Hs.zero))
 · have bn : ((se : Int) != 0) = true := by simpa using hk0
   have HKL := Lib.hid hk0
   have HE : Hid (er = se) := Lib.hid (by rw [HA.out]; simp [hk0])
   clear hk0
   go_wp2_with (first
    | (refine wpList_store_row rfl 42 (.tmp 6) (.tmp 18) rfl w1.heap.size X.toArray rfl rfl _ _ HBXH1.out (HSNO.out _ HXF.out) (HOO.out _ HXF.out) (HOC.out _ HXF.out) ?_; rw [← HWH1.out])
    | (refine wpList_store_row rfl 37 (.tmp 4) (.tmp 22) rfl (w.heap.size + 2) Hs.zero rfl rfl _ _ (HZ.out _ H1.out) HSQ.out rfl H1Q.out ?_)
    | fail)
   exact bodyPost_ret (results_row_tmp rfl _ _ (w.heap.size + 2) _ _ _ _ rfl (setRow_heap _ _ _ _ _ _ (HZ.out _ H1.out)) huh rfl HSQ.out) rfl (by
    have hne : er ≠ 0 := by rw [HE.out]; exact HKL.out
    rw [HE.out] at hne ⊢
    exact HouseP.bad hne (setRow_below (HBW.out _ H1.out).1 (show w.heap.size ≤ w.heap.size + 2 by omega) Hs.zero))
end Go.Proofs.YtgbilfkjfeheaaaGreat
