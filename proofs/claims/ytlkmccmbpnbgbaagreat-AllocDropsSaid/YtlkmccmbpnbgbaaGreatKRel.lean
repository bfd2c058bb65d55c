/-
 CONTRACT of the code's release. (By wip/tools/gen_acode.py.)
-/
import Derived.Test.YtlkmccmbpnbgbaaGreatKClaim
import Derived.Test.YtlkmccmbpnbgbaaGreatKQ
import Derived.Test.YtlkmccmbpnbgbaaGreatKD
import Derived.Test.YtlkmccmbpnbgbaaGreatAFacts
import Derived.Test.YtlkmccmbpnbgbaaGreatHLastN
import Derived.Test.YtlkmccmbpnbgbaaGreatJHead
import Derived.Deep.CutRange
import Derived.BigQuiet
namespace Go.Proofs.YtlkmccmbpnbgbaaGreat
set_option linter.unusedVariables false
open Go.RowKit
open Pl (firstG firstG_none firstG_some findG overG putG dropG It)

/-- A list is put into the house's box. -/
theorem HBox.setList {w W : World} {a : Hs} {L : HL} (h : HBox w a L W) {i : Nat} (hi : i < 14) {A : Option Addr} {n c base k : Nat} {T : TypeId} {l : List (List Value)} (hl : Things (kOf i) l) (hn : n = l.length) (hn6 : n ≤ 1000000) (ho : W.ownsRow base T k (.slice A n c) n l.flatten) (hb : w.heap.size < base) : HBox w (a.set i A n c) (setE 0 L i l) (W.setCell ⟨w.heap.size, i, none⟩ (.slice A n c)) := by
 refine ⟨h.ht.setList h.off hi hl hn hn6 (Rd.of_own ho) (fun p hp => ?_) _, fun j hj => ?_, fun j hj hne p hp => ?_, ?_, h.bel.setCell (Nat.le_refl _) _, by simpa [World.setCell] using h.sz⟩
 · have := own_block ho hp; omega
 · by_cases h0 : j = i
   · subst h0
     exact ⟨by simpa [Hs.set] using own_cap ho, by simpa [Hs.set] using own_max ho⟩
   · simpa [Hs.set, h0] using h.caps j hj
 · by_cases h0 : j = i
   · subst h0
     have := own_block ho (p := p) (by simpa [Hs.set] using hp)
     omega
   · rw [setE_off rfl L h0] at hne
     exact h.off j hj hne p (by simpa [Hs.set, h0] using hp)
 · rw [block_setCell h.box, a.set_cells _ _ _ i hi]
theorem off_set {a : Hs} {L : HL} {i o : Nat} {A : Option Addr} {n c base k : Nat} {T : TypeId} {W : World} {l : List (List Value)} (ho : W.ownsRow base T k (.slice A n c) n l.flatten) (hb : o < base) (h : Off o a L) : Off o (a.set i A n c) (setE 0 L i l) := fun j hj hne p hp => by
 by_cases h0 : j = i
 · subst h0
   have := own_block ho (p := p) (by simpa [Hs.set] using hp)
   omega
 · rw [setE_off rfl L h0] at hne
   exact h j hj hne p (by simpa [Hs.set, h0] using hp)
theorem dropG_things {k : List CK} {ord : List Value → List Value → Int} {l : List (List Value)} (h : Things k l) (x : List Value) : Things k (dropG ord l x) := fun e he => h e (dropG_mem he)
set_option maxRecDepth 100000 in
set_option maxHeartbeats 12800000 in
theorem crelease (h : Hs) (L : HL) (A : Option Addr) (m c : Nat) (C : List (List Value)) (w : World) (hh : HT h L w) (hn4 : h.n 4 ≤ 1000) (hn8 : h.n 8 ≤ 1000) (hc : Caps h) (hm : m = C.length) (hm6 : m ≤ 1000000) (hT : Things kClaim C) (hr : Rd w w.heap.size A C.flatten) :
 Calls Tryz.prog 76 #[.agg h.cells, .slice A m c] w (HouseP (relE C L m) (relM C L m) h L w) := by
 have HTT := Lib.hid hT
 have HRR := Lib.hid hr
 have HMT := Lib.hid hm
 have HLN : Hid ((L 4).length ≤ 1000 ∧ (L 8).length ≤ 1000) := Lib.hid ⟨by rw [← (hh 4 (by decide)).1]; exact hn4, by rw [← (hh 8 (by decide)).1]; exact hn8⟩
 have HOH : Hid (∀ g, w.heap.size ≤ g → Off g h L) := Lib.hid (fun g hg => hh.offge hg)
 obtain ⟨E, hE⟩ : ∃ E, relE C L m = E := ⟨_, rfl⟩
 obtain ⟨M, hM⟩ : ∃ M, relM C L m = M := ⟨_, rfl⟩
 have HEV := Lib.hid hE
 have HMV := Lib.hid hM
 rw [hE, hM]
 clear hE hM
 have huC := Tryz.underlying46
 have HSC8 : Hid ((Tryz.prog.info? 46).map (·.size) = some 8) := Lib.hid (by kernel_rfl)
 have huK := Tryz.underlying44
 have HSK4 : Hid ((Tryz.prog.info? 44).map (·.size) = some 4) := Lib.hid (by kernel_rfl)
 obtain ⟨W0, hW0⟩ : ∃ W0, W0 = ((w.alloc (.cells h.cells 37)).alloc (.cells #[.slice none 0 0, .slice none 0 0, .slice none 0 0, .slice none 0 0, .slice none 0 0, .slice none 0 0, .slice none 0 0, .slice none 0 0, .slice none 0 0, .slice none 0 0, .slice none 0 0, .slice none 0 0, .slice none 0 0, .slice none 0 0, .int .i64 0] 37)) := ⟨_, rfl⟩
 have hb0 : Below w.heap.size w W0 := by rw [hW0]; exact ((Below.refl _ _).alloc (Nat.le_refl _) _).alloc (by simp <;> omega) _
 have hs0 : W0.heap.size = w.heap.size + 2 := by rw [hW0]; simp
 have HH : Hid (∀ W, Below W0.heap.size W0 W → W.heap[w.heap.size]? = some (.cells h.cells 37 (0, 0))) := Lib.hid (fun W hW => (hW.block _ (by omega)).trans (by
  rw [hW0]
  have hq := heap_alloc_new w (.cells h.cells 37)
  exact (Below.heap_alloc _ _ _ (by simp <;> omega)).trans ((by simpa using hq))))
 have HZ : Hid (∀ W, Below W0.heap.size W0 W → W.heap[w.heap.size + 1]? = some (.cells Hs.zero 37 (0, 0))) := Lib.hid (fun W hW => (hW.block _ (by omega)).trans (by
  rw [hW0]
  have hq := heap_alloc_new (w.alloc (.cells h.cells 37)) (.cells #[.slice none 0 0, .slice none 0 0, .slice none 0 0, .slice none 0 0, .slice none 0 0, .slice none 0 0, .slice none 0 0, .slice none 0 0, .slice none 0 0, .slice none 0 0, .slice none 0 0, .slice none 0 0, .slice none 0 0, .slice none 0 0, .int .i64 0] 37)
  exact (by simpa [Hs.zero] using hq)))
 have HBW : Hid (∀ W, Below W0.heap.size W0 W → Below w.heap.size w W ∧ w.heap.size + 2 ≤ W.heap.size) := Lib.hid (fun W hW => ⟨hb0.trans (hW.mono (by omega)), by have := hW.size; omega⟩)
 have huh := Tryz.underlying37
 have HSH : Hid (∀ a : Hs, (Tryz.prog.info? 37).map (·.size) = some a.cells.size) := Lib.hid (fun a => by kernel_rfl)
 have HSQ : Hid ((Tryz.prog.info? 37).map (·.size) = some Hs.zero.size) := Lib.hid (by kernel_rfl)
 have H1C : Hid (∀ a : Hs, a.cells.all (·.oneCell') = true) := Lib.hid (fun a => by simp [Hs.cells, Value.oneCell'])
 have H1Q : Hid (Hs.zero.all (·.oneCell') = true) := Lib.hid (by simp [Hs.zero, Value.oneCell'])
 have HB0 : Hid (HBox w h L W0) := Lib.hid ⟨hh.below hb0, hc, HOH.out _ (Nat.le_refl _), HH.out W0 (Below.refl _ _), hb0, by omega⟩
 have HZ0 : Hid (W0.heap[w.heap.size + 1]? = some (.cells Hs.zero 37 (0, 0))) := Lib.hid (HZ.out W0 (Below.refl _ _))
 have HS0 : Hid (w.heap.size + 2 ≤ W0.heap.size) := Lib.hid (by omega)
 have H0 := Lib.hid (Below.refl W0.heap.size W0)
 clear hb0 hs0 hh hn4 hn8 hc hm hT hr HH HZ
 subst hW0
 go_enter Tryz.func76, Tryz.ntmps76
 go_wp2_with fail
 go_loopw [6, 11] (fun ev iv wr => ∃ (k : Nat) (g : Hs), k ≤ m ∧ ev = .int .i64 0 ∧ iv = .int .i64 (k : Int) ∧ Hid (relE C L k = 0) ∧ Hid (HBox w g (relM C L k) wr) ∧ Hid (g.z = h.z) ∧ Hid (wr.heap[w.heap.size + 1]? = some (.cells Hs.zero 37 (0, 0))) ∧ Hid (w.heap.size + 2 ≤ wr.heap.size) ∧ Hid (∀ o, Off o h L → o < w.heap.size + 2 → Off o g (relM C L k))) (fun _ iv _ => m - (intOf iv).toNat)
 case atStart => exact ⟨0, h, by omega, rfl, rfl, Lib.hid rfl, HB0, Lib.hid rfl, HZ0, HS0, Lib.hid (fun o ho _ => ho)⟩
 case round =>
  obtain ⟨k, g, hk, rfl, rfl, hE0, hbx, hgz, hzb, hsz, hof⟩ := hrel
  by_cases hlt : k < m
  · have hkl : k < C.length := by rw [← HMT.out]; exact hlt
    obtain ⟨b, off, hA, hb, hc⟩ := HRR.out.thing HTT.out (by decide) hkl
    have fx := HTT.out _ (List.getElem_mem hkl)
    have r1 := rangeAt_below (hc k hkl) hb hbx.out.bel
    rw [show kClaim.length = 8 from rfl] at r1
    have hgt : C.getD k [] = C[k] := by rw [List.getD_eq_getElem?_getD, List.getElem?_eq_getElem hkl]; rfl
    obtain ⟨t, ht⟩ : ∃ t, C.getD k [] = t := ⟨_, rfl⟩
    rw [← hgt, ht] at fx r1
    have hcell := cl_cells fx
    obtain ⟨⟨yo, yn, yb, yi, yl, ys, yq, yt⟩, hcy⟩ : ∃ z, clOf t = z := ⟨_, rfl⟩
    rw [hcy] at hcell
    unfold Cl.cells at hcell
    simp only [] at hcell
    rw [hcell] at r1 fx
    obtain ⟨G, hG⟩ : ∃ G, relM C L k = G := ⟨_, rfl⟩
    have hs1 := relM_succ C L k
    rw [hG, ht, hcy, hcell] at hs1
    unfold Cl.ky at hs1
    simp only [] at hs1
    have hlen := rel_len C L k hE0.out
    rw [hG] at hlen hbx hof
    obtain ⟨er, her⟩ : ∃ z, holdE (G 4) (Ky.mk yb yi yl ys) (wrap64 (-yq)) = z := ⟨_, rfl⟩
    obtain ⟨l4, hl4⟩ : ∃ z, holdL (G 4) (Ky.mk yb yi yl ys) (wrap64 (-yq)) = z := ⟨_, rfl⟩
    obtain ⟨l8, hl8⟩ : ∃ z, dropG ordClaim (G 8) [.string yo, .int .i64 yn, .string yb, .string yi, .string yl, .int .i64 ys, .int .i64 yq, .int .i64 yt] = z := ⟨_, rfl⟩
    have hee : relE C L (k + 1) = er := by
     rw [show relE C L (k + 1) = _ from firstE_one hE0.out, hG, ht, hcy]
     unfold Cl.ky
     exact her
    have HHIT : Hid (er ≠ 0 → E = er) := Lib.hid (fun h1 => by rw [← HEV.out, ← hee]; rw [← hee] at h1; exact firstE_le _ (by omega) h1)
    have HGO : Hid (er = 0 → relE C L (k + 1) = 0) := Lib.hid (fun h1 => by rw [hee]; exact h1)
    rw [hl4, hl8] at hs1
    have HS1 := Lib.hid hs1
    have HG4 : Hid ((G 4).length ≤ 1000 ∧ (G 8).length ≤ 1000) := Lib.hid ⟨Nat.le_trans hlen.1 HLN.out.1, Nat.le_trans hlen.2 HLN.out.2⟩
    have HL4 : Hid (Things (kOf 4) l4 ∧ l4.length ≤ 1000000) := Lib.hid ⟨by rw [← hl4]; exact holdL_things (hbx.out.ht 4 (by decide)).2.2.1 _ _, by rw [← hl4]; have h1 : (holdL (G 4) (Ky.mk yb yi yl ys) (wrap64 (-yq))).length ≤ (G 4).length + 1 := upQ_len _ _; have h2 := HG4.out.1; omega⟩
    have HL8 : Hid (Things (kOf 8) l8 ∧ l8.length ≤ 1000000) := Lib.hid ⟨by rw [← hl8]; exact dropG_things (hbx.out.ht 8 (by decide)).2.2.1 _, by rw [← hl8]; have h1 := dropG_len ordClaim (G 8) [.string yo, .int .i64 yn, .string yb, .string yi, .string yl, .int .i64 ys, .int .i64 yq, .int .i64 yt]; have h2 := HG4.out.2; omega⟩
    have CH : Hid (∀ W, HT g G W → Calls Tryz.prog 98 #[.agg g.cells, .agg #[.string yb, .string yi, .string yl, .int .i64 ys], .int .i64 (wrap64 (-yq))] W (HouseP er (setE 0 G 4 l4) g G W)) := Lib.hid (fun W hW => by
     have h1 := chold g G yb yi yl ys (wrap64 (-yq)) W hW (by rw [(hW 4 (by decide)).1]; have := HG4.out.1; omega) (hbx.out.caps 4 (by decide))
     rw [her, hl4] at h1
     exact h1.mono (fun e w' H => H.house (by decide) HL4.out.1 HL4.out.2 hW))
    have HFC := Lib.hid fx
    have CD : Hid (∀ (q : Hs) W, HT q (setE 0 G 4 l4) W → Caps q → Calls Tryz.prog 92 #[.agg #[tvC], .slice (q.A 8) (q.n 8) (q.c 8), .agg #[.string yo, .int .i64 yn, .string yb, .string yi, .string yl, .int .i64 ys, .int .i64 yq, .int .i64 yt]] W (NewClaim W l8)) := Lib.hid (fun q W hW hcq => by
     have h8 : setE 0 G 4 l4 8 = G 8 := setE_off rfl _ (by decide) _
     obtain ⟨a1, a2, a3, a4⟩ := hW 8 (by decide)
     rw [h8] at a1 a3 a4
     have h1 := dropClaim (q.A 8) (q.n 8) (q.c 8) 86 #[] ordClaim [.string yo, .int .i64 yn, .string yb, .string yi, .string yl, .int .i64 ys, .int .i64 yq, .int .i64 yt] (G 8) W a1 (hcq 8 (by decide)).1 (hcq 8 (by decide)).2 (by rw [a1]; have := HG4.out.2; omega) a3 HFC.out a4 (tellsC W)
     rw [hl8] at h1
     exact h1)
    have HRT : Hid (wr.rangeAt b (off + k * 8) [.string yo, .int .i64 yn, .string yb, .string yi, .string yl, .int .i64 ys, .int .i64 yq, .int .i64 yt]) := Lib.hid r1
    have hbw : b < wr.heap.size := Nat.lt_of_lt_of_le hb hbx.out.bel.size
    have h1 : (0 : Int) ≤ (k : Int) := by omega
    have h2 : (k : Int) < (m : Int) := by omega
    rw [hA]
    clear hc r1 fx hgt ht hcell hcy hs1 hlen hee her hl4 hl8 hG hkl hA hb
    obtain ⟨w1, hw1⟩ : ∃ W, W = wr.alloc (.cells #[.string yo, .int .i64 yn, .string yb, .string yi, .string yl, .int .i64 ys, .int .i64 yq, .int .i64 yt] 46) := ⟨_, rfl⟩
    have hb1 : Below wr.heap.size wr w1 := by rw [hw1]; exact (Below.refl _ _).alloc (Nat.le_refl _) _
    have HB1 := Lib.hid (hbx.out.below hb1)
    have HZ1 := Lib.hid ((hb1.block _ (lt_of_block hzb.out)).trans hzb.out)
    have HX1 : Hid (w1.heap[wr.heap.size]? = some (.cells #[.string yo, .int .i64 yn, .string yb, .string yi, .string yl, .int .i64 ys, .int .i64 yq, .int .i64 yt] 46 (0, 0))) := Lib.hid (by rw [hw1]; exact heap_alloc_new _ _)
    have HW1 := Lib.hid hw1
    clear hb1 hw1
    go_upto_region 5 with (first
     | (refine wpList_load_mid rfl 46 (.tmp 13) rfl b (off + k * 8) rfl [.string yo, .int .i64 yn, .string yb, .string yi, .string yl, .int .i64 ys, .int .i64 yq, .int .i64 yt] _ HRT.out huC rfl HSC8.out ?_)
     | fail)
    rw [← HW1.out]
    have c4 : w1.cell? ⟨wr.heap.size, 6, none⟩ = some (.int .i64 yq) := by rw [cell_of_block HX1.out]; rfl
    have clt := lt_of_block HX1.out
    have HRK : Hid (w1.rangeAt wr.heap.size 2 [.string yb, .string yi, .string yl, .int .i64 ys]) := Lib.hid (range_part (pre := [.string yo, .int .i64 yn]) (post := [.int .i64 yq, .int .i64 yt]) HX1.out)
    go_wp2_with (first
     | (refine wpList_load_row rfl 37 (.tmp 2) rfl w.heap.size rfl _ _ _ _ HB1.out.box huh rfl (HSH.out _) ?_)
     | (refine wpList_load_mid rfl 44 (.tmp 17) rfl wr.heap.size 2 rfl [.string yb, .string yi, .string yl, .int .i64 ys] _ HRK.out huK rfl HSK4.out ?_)
     | fail)
    refine (CH.out _ HB1.out.ht).mono ?_
    rintro e w2 ⟨hb2, q, rfl, hq, hqz, hqc, hqo⟩
    clear c4 clt HRK
    have HB2 := Lib.hid (HB1.out.below hb2)
    have HQ2 := Lib.hid hq
    have HQZ := Lib.hid hqz
    have HQC := Lib.hid (hqc HB1.out.caps)
    have HQO := Lib.hid hqo
    have HS12 := Lib.hid HB1.out.sz
    have HS12B : Hid (w.heap.size + 2 ≤ w1.heap.size) := Lib.hid (by have := lt_of_block HZ1.out; omega)
    have HX2 := Lib.hid ((hb2.block _ (lt_of_block HX1.out)).trans HX1.out)
    have HZ2 := Lib.hid ((hb2.block _ (lt_of_block HZ1.out)).trans HZ1.out)
    clear hb2 hq hqz hqc hqo
    have HOW : Hid (Off w.heap.size q (setX er (setE 0 G 4 l4))) := Lib.hid (HQO.out _ HB1.out.off HS12.out)
    obtain ⟨w3, hw3⟩ : ∃ W, W = w2.setRow w.heap.size q.cells := ⟨_, rfl⟩
    have HB3 : Hid (HBox w q (setX er (setE 0 G 4 l4)) w3) := Lib.hid (by rw [hw3]; exact HB2.out.store HQ2.out HQC.out HOW.out)
    have HX3 : Hid (w3.heap[wr.heap.size]? = some (.cells #[.string yo, .int .i64 yn, .string yb, .string yi, .string yl, .int .i64 ys, .int .i64 yq, .int .i64 yt] 46 (0, 0))) := Lib.hid (by rw [hw3]; exact (setRow_other _ _ _ _ (by have := hsz.out; omega)).trans HX2.out)
    have HZ3 : Hid (w3.heap[w.heap.size + 1]? = some (.cells Hs.zero 37 (0, 0))) := Lib.hid (by rw [hw3]; exact (setRow_other _ _ _ _ (by omega)).trans HZ2.out)
    have HW3 := Lib.hid hw3
    clear hw3
    by_cases hk0 : er = 0
    · subst hk0
      rw [setX_ok rfl] at HB3 HOW HQO
      have HGK : Hid (relE C L (k + 1) = 0) := Lib.hid (HGO.out rfl)
      obtain ⟨G2, hG2⟩ : ∃ z, setE 0 G 4 l4 = z := ⟨_, rfl⟩
      have CD2 := CD.out q
      rw [hG2] at HB3 HOW HQO CD2
      have HG2 := Lib.hid hG2
      have CDQ := Lib.hid CD2
      clear CD2 hG2 HHIT HGO
      go_upto_region 8 with (first
       | (refine wpList_store_row rfl 37 (.tmp 2) (.tmp 23) rfl w.heap.size q.cells rfl rfl _ _ HB2.out.box (HSH.out _) rfl (H1C.out _) ?_; rw [← HW3.out])
       | fail)
      go_wp2_with fail
      have HBT : Hid (∀ W, Below w3.heap.size w3 W → HBox w q G2 W) := Lib.hid (fun W hW => HB3.out.below hW)
      have HST : Hid (∀ W, Below w3.heap.size w3 W → W.cell? ⟨w.heap.size, 8, none⟩ = some (.slice (q.A 8) (q.n 8) (q.c 8)) ∧ W.rangeAt wr.heap.size 0 [.string yo, .int .i64 yn, .string yb, .string yi, .string yl, .int .i64 ys, .int .i64 yq, .int .i64 yt]) := Lib.hid (fun W hW => ⟨(by rw [cell_of_block (HBT.out _ hW).box]; rfl), range_row0 ((hW.block _ (lt_of_block HX3.out)).trans HX3.out)⟩)
      have BN0 := Lib.hid (Below.refl w3.heap.size w3).drew
      refine lastN_region (S := (fun w' => w'.cell? ⟨w.heap.size, 8, none⟩ = some (.slice (q.A 8) (q.n 8) (q.c 8)) ∧ w'.rangeAt wr.heap.size 0 [.string yo, .int .i64 yn, .string yb, .string yi, .string yl, .int .i64 ys, .int .i64 yq, .int .i64 yt])) (n := 6) (by kernel_rfl) ?_
      refine LastN.pure (i := 1) (v := .pointer (some ⟨w.heap.size, 8, none⟩)) rfl (by kernel_rfl) (by kernel_rfl) (by kernel_rfl) (by decide) (fun _ _ _ h => h.elim) (.inl ⟨by kernel_rfl, fun w hw => by clear hw; go_simp⟩) (fun _ => HST.out _ BN0.out) ?_
      (try simp only [ax])
      refine LastN.take (i := 2) (v := .slice (q.A 8) (q.n 8) (q.c 8)) rfl (by kernel_rfl) (by kernel_rfl) (by kernel_rfl) (by kernel_rfl) (by kernel_rfl) (by decide) (fun _ _ _ h => h.elim) (.inl ⟨by kernel_rfl, fun w h => by have hw := h.1; clear h; go_simp⟩) (HST.out _ BN0.out) ?_
      (try simp only [ax])
      refine LastN.take (i := 3) (v := .agg #[.string yo, .int .i64 yn, .string yb, .string yi, .string yl, .int .i64 ys, .int .i64 yq, .int .i64 yt]) rfl (by kernel_rfl) (by kernel_rfl) (by kernel_rfl) (by kernel_rfl) (by kernel_rfl) (by decide) (fun _ _ _ h => h.elim) (yieldsIf_load_mid (by kernel_rfl) 46 (.tmp 8) rfl wr.heap.size (0) rfl [.string yo, .int .i64 yn, .string yb, .string yi, .string yl, .int .i64 ys, .int .i64 yq, .int .i64 yt] _ (fun w h => h.2) huC rfl HSC8.out) (HST.out _ BN0.out) ?_
      (try simp only [ax])
      refine LastN.one (i := 0) (by kernel_rfl) rfl (fun K hK => ?_)
      go_simp
      refine (tabC_any _).mono ?_
      rintro e w6 ⟨rfl, hbn⟩
      have BN6 := Lib.hid (BN0.out.trans (hbn.mono BN0.out.size))
      clear hbn
      refine hK.out _ _ (fun _ _ => HST.out _ BN6.out) (fun _ => ?_)
      clear hK K
      (try simp only [ax])
      refine LastN.one (i := 4) (by kernel_rfl) rfl (fun K hK => ?_)
      go_simp
      refine (CDQ.out _ (HBT.out _ BN6.out).ht (HBT.out _ BN6.out).caps).mono ?_
      rintro e w7 ⟨A5, n5, c5, hl5, rfl, hown5, hbn⟩
      have BN7 := Lib.hid (BN6.out.trans (hbn.mono BN6.out.size))
      have HO5 := Lib.hid hown5
      have HLE5 := Lib.hid hl5
      have HS67 := Lib.hid hbn.size
      clear hown5 hl5
      clear hbn
      refine hK.out _ _ (fun _ _ => HST.out _ BN7.out) (fun _ => ?_)
      clear hK K
      (try simp only [ax])
      refine LastN.pure (i := 5) (v := .pointer (some ⟨w.heap.size, 8, none⟩)) rfl (by kernel_rfl) (by kernel_rfl) (by kernel_rfl) (by decide) (fun _ _ _ h => h.elim) (.inl ⟨by kernel_rfl, fun w hw => by clear hw; go_simp⟩) (fun _ => HST.out _ BN7.out) ?_
      (try simp only [ax])
      refine LastN.one (i := 6) (by kernel_rfl) rfl (fun K hK => ?_)
      have c5' := (HST.out _ BN7.out).1
      have f5 : w7.frozen? ⟨w.heap.size, 8, none⟩ = false := frozen_of_block (HBT.out _ BN7.out).box
      have l5 : w.heap.size < w7.heap.size := lt_of_block (HBT.out _ BN7.out).box
      go_simp
      refine hK.out _ _ (fun _ h => absurd rfl h) (fun _ => ?_)
      clear hK K c5' f5 l5
      (try simp only [ax])
      refine LastN.done (by kernel_rfl) ?_ _
      refine NoPanic.normal ?_
      clear HST
      have HB7 := Lib.hid (HBT.out _ BN7.out)
      have HS36 : Hid (w.heap.size + 2 ≤ w6.heap.size) := Lib.hid (Nat.le_trans (show w.heap.size + 2 ≤ w3.heap.size by have := lt_of_block HZ3.out; omega) BN6.out.size)
      have HZ7 := Lib.hid ((BN7.out.block _ (lt_of_block HZ3.out)).trans HZ3.out)
      have HB8 := Lib.hid (HB7.out.setList (i := 8) (by decide) HL8.out.1 HLE5.out (by rw [HLE5.out]; exact HL8.out.2) HO5.out (by have := HS36.out; omega))
      have HZ8 : Hid ((w7.setCell ⟨w.heap.size, 8, none⟩ (.slice A5 n5 c5)).heap[w.heap.size + 1]? = some (.cells Hs.zero 37 (0, 0))) := Lib.hid ((block_setCell_other (by omega) _).trans HZ7.out)
      have HS8 : Hid (w.heap.size + 2 ≤ (w7.setCell ⟨w.heap.size, 8, none⟩ (.slice A5 n5 c5)).heap.size) := Lib.hid (by have := lt_of_block HZ8.out; omega)
      have HOF8 : Hid (∀ o, o < w.heap.size + 2 → Off o q G2 → Off o (q.set 8 A5 n5 c5) (setE 0 G2 8 l8)) := Lib.hid (fun o h1 h2 => off_set HO5.out (by have := HS36.out; omega) h2)
      generalize w7.setCell ⟨w.heap.size, 8, none⟩ (.slice A5 n5 c5) = w8 at *
      go_wp2_with fail
      go_roundw
      case rel => exact ⟨k + 1, q.set 8 A5 n5 c5, by omega, rfl, by go_num, HGK, by rw [HS1.out, HG2.out]; exact HB8, Lib.hid (by show q.z = h.z; rw [HQZ.out]; exact hgz.out), HZ8, HS8, Lib.hid (fun o h1 h2 => by rw [HS1.out, HG2.out]; exact HOF8.out o h2 (HQO.out o (hof.out o h1 h2) (Nat.lt_of_lt_of_le h2 HS12B.out)))⟩
      case measure => simp [intOf]; omega
    · have bn : ((er : Int) != 0) = true := by simpa using hk0
      have HKL := Lib.hid hk0
      clear hk0
      have HE : Hid (E = er) := Lib.hid (HHIT.out HKL.out)
      go_wp2_with (first
       | (refine wpList_store_row rfl 37 (.tmp 2) (.tmp 23) rfl w.heap.size q.cells rfl rfl _ _ HB2.out.box (HSH.out _) rfl (H1C.out _) ?_; rw [← HW3.out])
       | (refine wpList_store_row rfl 37 (.tmp 4) (.tmp 27) rfl (w.heap.size + 1) Hs.zero rfl rfl _ _ HZ3.out HSQ.out rfl H1Q.out ?_)
       | fail)
      exact bodyPost_ret (results_row_tmp rfl _ _ (w.heap.size + 1) _ _ _ _ rfl (setRow_heap _ _ _ _ _ _ HZ3.out) huh rfl HSQ.out) rfl (by
       rw [HE.out]
       exact HouseP.bad HKL.out (setRow_below HB3.out.bel (show w.heap.size ≤ w.heap.size + 1 by omega) _))
  · have hkm : k = m := by omega
    subst hkm
    have HE : Hid (E = 0) := Lib.hid (by rw [← HEV.out]; exact hE0.out)
    rw [HMV.out] at hbx hof
    go_wp2_with (first
     | (refine wpList_load_row rfl 37 (.tmp 2) rfl w.heap.size rfl _ _ _ _ hbx.out.box huh rfl (HSH.out _) ?_)
     | (refine wpList_store_row rfl 37 (.tmp 4) (.tmp 36) rfl (w.heap.size + 1) g.cells rfl rfl _ _ hzb.out (HSH.out _) rfl (H1C.out _) ?_)
     | fail)
    exact bodyPost_ret (results_row_tmp rfl _ _ (w.heap.size + 1) _ _ _ _ rfl (setRow_heap _ _ _ _ _ _ hzb.out) huh rfl (HSH.out _)) rfl (by
     rw [HE.out]
     have ho1 : Off (w.heap.size + 1) g M := hof.out _ (HOH.out _ (by omega)) (by omega)
     refine ⟨setRow_below hbx.out.bel (show w.heap.size ≤ w.heap.size + 1 by omega) _, g, rfl, ?_, hgz.out, fun _ => hbx.out.caps, fun o h1 h2 => ?_⟩
     · rw [setX_ok rfl]; exact hbx.out.ht.setRowOff ho1 _
     · rw [setX_ok rfl]; exact hof.out o h1 (by omega))
end Go.Proofs.YtlkmccmbpnbgbaaGreat
