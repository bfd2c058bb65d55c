/-
 CONTRACT of the code's reserve. (By wip/tools/gen_acode.py.)
-/
import Derived.Test.YtlkmccmbpnbgbaaGreatKClaim
import Derived.Test.YtlkmccmbpnbgbaaGreatKQ
import Derived.Test.YtlkmccmbpnbgbaaGreatKSum
import Derived.Test.YtlkmccmbpnbgbaaGreatAFacts
import Derived.Test.YtlkmccmbpnbgbaaGreatWTk
import Derived.Test.YtlkmccmbpnbgbaaGreatHLastN
import Derived.Test.YtlkmccmbpnbgbaaGreatJHead
import Derived.Deep.CutRange
import Derived.BigQuiet
namespace Go.Proofs.YtlkmccmbpnbgbaaGreat
set_option linter.unusedVariables false
open Go.RowKit
open Pl (firstG firstG_none firstG_some findG overG putG dropG It)

/-- What reserve leaves: a house with the lists M, how much was taken; or what is wrong. -/
def ResvP (err : Nat) (z : Int) (M : HL) (h : Hs) (L : HL) (w : World) (e : Ending) (w' : World) : Prop :=
 Below w.heap.size w w' ∧ ∃ p : Hs, e = .returned (.tuple #[.agg p.cells, .int .i64 (zE err z), .int .i64 (err : Nat)]) ∧ HT p (setX err M) w' ∧ p.z = zE err h.z ∧ Caps p ∧ ∀ g, Off g h L → g < w.heap.size → Off g p (setX err M)
theorem ResvP.bad {err : Nat} {z : Int} {M : HL} {h : Hs} {L : HL} {w w' : World} (he : err ≠ 0) (hb : Below w.heap.size w w') : ResvP err z M h L w (.returned (.tuple #[.agg Hs.zero, .int .i64 0, .int .i64 (err : Nat)])) w' :=
 ⟨hb, hsN, by unfold zE; rw [if_neg he]; rfl, by rw [setX_bad he]; exact hsN_ht w', by unfold zE; rw [if_neg he]; rfl, hsN_caps, fun g _ _ => by rw [setX_bad he]; exact Off.nil g _⟩
theorem results_row_tmp2C {P : Program} {fn : Func} {p q r : Tmp} {ty : TypeId} (h : fn.results = #[.cell p ty, .tmp q, .tmp r]) (tmps : Array Value) (w : World) (g : Nat) (t : TypeId) (cs : Array Value) (fr : Nat × Nat) (d : TypeDesc)
 (hp : tmps.getD p undef = .pointer (some ⟨g, 0, none⟩)) (hg : w.heap[g]? = some (.cells cs t fr))
 (hu : P.underlying ty = some d) (hd : (match d with | .struct _ | .array _ _ => true | _ => false) = true) (hi : (P.info? ty).map (·.size) = some cs.size) :
 (results fn tmps).run P w = .ok (.tuple #[.agg cs, tmps.getD q undef, tmps.getD r undef]) w := by
 have hp' : tmps[p]?.getD undef = .pointer (some ⟨g, 0, none⟩) := by simpa using hp
 simp [results, h, hp', asAddr, run_loadVar_row w g t ty cs fr d hg hu hd hi]
set_option maxRecDepth 100000 in
set_option maxHeartbeats 12800000 in
theorem creserve (h : Hs) (L : HL) (s : ByteArray) (n : Int) (A : Option Addr) (m c : Nat) (T : List (List Value)) (w : World) (hh : HT h L w) (hn4 : h.n 4 ≤ 1000) (hn8 : h.n 8 ≤ 1000) (hc : Caps h) (hm : m = T.length) (hm6 : m ≤ 1000000) (hT : Things kTake T) (hr : Rd w w.heap.size A T.flatten) :
 Calls Tryz.prog 67 #[.agg h.cells, .string s, .int .i64 n, .slice A m c] w (ResvP (rsvE s n T L m) (wrap64 (sumT T m)) (rsvM s n T L m) h L w) := by
 have HTT := Lib.hid hT
 have HRR := Lib.hid hr
 have HMT := Lib.hid hm
 have HLN : Hid ((L 4).length ≤ 1000 ∧ (L 8).length ≤ 1000) := Lib.hid ⟨by rw [← (hh 4 (by decide)).1]; exact hn4, by rw [← (hh 8 (by decide)).1]; exact hn8⟩
 have HOH : Hid (∀ g, w.heap.size ≤ g → Off g h L) := Lib.hid (fun g hg => hh.offge hg)
 obtain ⟨E, hE⟩ : ∃ E, rsvE s n T L m = E := ⟨_, rfl⟩
 obtain ⟨M, hM⟩ : ∃ M, rsvM s n T L m = M := ⟨_, rfl⟩
 obtain ⟨Z, hZ⟩ : ∃ Z, wrap64 (sumT T m) = Z := ⟨_, rfl⟩
 have HEV := Lib.hid hE
 have HMV := Lib.hid hM
 have HZV := Lib.hid hZ
 rw [hE, hM, hZ]
 clear hE hM hZ
 have huT := Tryz.underlying135
 have HST5 : Hid ((Tryz.prog.info? 135).map (·.size) = some 5) := Lib.hid (by kernel_rfl)
 have huK := Tryz.underlying44
 have HSK4 : Hid ((Tryz.prog.info? 44).map (·.size) = some 4) := Lib.hid (by kernel_rfl)
 obtain ⟨W0, hW0⟩ : ∃ W0, W0 = ((w.alloc (.cells h.cells 37)).alloc (.cells #[.slice none 0 0, .slice none 0 0, .slice none 0 0, .slice none 0 0, .slice none 0 0, .slice none 0 0, .slice none 0 0, .slice none 0 0, .slice none 0 0, .slice none 0 0, .slice none 0 0, .slice none 0 0, .slice none 0 0, .slice none 0 0, .int .i64 0] 37)) := ⟨_, rfl⟩
 have hb0 : Below w.heap.size w W0 := by rw [hW0]; exact ((Below.refl _ _).alloc (Nat.le_refl _) _).alloc (by simp <;> omega) _
 have hs0 : W0.heap.size = w.heap.size + 2 := by rw [hW0]; simp
 have HH : Hid (∀ W, Below W0.heap.size W0 W → W.heap[w.heap.size]? = some (.cells h.cells 37 (0, 0))) := Lib.hid (fun W hW => (hW.block _ (by omega)).trans (by
  rw [hW0]
  have hq := heap_alloc_new w (.cells h.cells 37)
  exact (Below.heap_alloc _ _ _ (by simp <;> omega)).trans ((by simpa using hq))))
 have HZ : Hid (∀ W, Below W0.heap.size W0 W → W.heap[w.heap.size + 1]? = some (.cells Hs.zero 37 (0, 0))) := Lib.hid (fun W hW => (hW.block _ (by omega)).trans (by
  rw [hW0]
  have hq := heap_alloc_new (w.alloc (.cells h.cells 37)) (.cells #[.slice none 0 0, .slice none 0 0, .slice none 0 0, .slice none 0 0, .slice none 0 0, .slice none 0 0, .slice none 0 0, .slice none 0 0, .slice none 0 0, .slice none 0 0, .slice none 0 0, .slice none 0 0, .slice none 0 0, .slice none 0 0, .int .i64 0] 37)
  exact (by simpa [Hs.zero] using hq)))
 have HBW : Hid (∀ W, Below W0.heap.size W0 W → Below w.heap.size w W ∧ w.heap.size + 2 ≤ W.heap.size) := Lib.hid (fun W hW => ⟨hb0.trans (hW.mono (by omega)), by have := hW.size; omega⟩)
 have huh := Tryz.underlying37
 have HSH : Hid (∀ a : Hs, (Tryz.prog.info? 37).map (·.size) = some a.cells.size) := Lib.hid (fun a => by kernel_rfl)
 have HSQ : Hid ((Tryz.prog.info? 37).map (·.size) = some Hs.zero.size) := Lib.hid (by kernel_rfl)
 have H1C : Hid (∀ a : Hs, a.cells.all (·.oneCell') = true) := Lib.hid (fun a => by simp [Hs.cells, Value.oneCell'])
 have H1Q : Hid (Hs.zero.all (·.oneCell') = true) := Lib.hid (by simp [Hs.zero, Value.oneCell'])
 have HB0 : Hid (HBox w h L W0) := Lib.hid ⟨hh.below hb0, hc, HOH.out _ (Nat.le_refl _), HH.out W0 (Below.refl _ _), hb0, by omega⟩
 have HZ0 : Hid (W0.heap[w.heap.size + 1]? = some (.cells Hs.zero 37 (0, 0))) := Lib.hid (HZ.out W0 (Below.refl _ _))
 have HS0 : Hid (w.heap.size + 2 ≤ W0.heap.size) := Lib.hid (by omega)
 have H0 := Lib.hid (Below.refl W0.heap.size W0)
 clear hb0 hs0 hh hn4 hn8 hc hm hT hr HH HZ
 subst hW0
 go_enter Tryz.func67, Tryz.ntmps67
 go_wp2_with fail
 go_loopw [11, 12, 17] (fun tv ev iv wr => ∃ (k : Nat) (g : Hs), k ≤ m ∧ tv = .int .i64 (wrap64 (sumT T k)) ∧ ev = .int .i64 0 ∧ iv = .int .i64 (k : Int) ∧ Hid (rsvE s n T L k = 0) ∧ Hid (HBox w g (rsvM s n T L k) wr) ∧ Hid (g.z = h.z) ∧ Hid (wr.heap[w.heap.size + 1]? = some (.cells Hs.zero 37 (0, 0))) ∧ Hid (w.heap.size + 2 ≤ wr.heap.size) ∧ Hid (∀ o, Off o h L → o < w.heap.size + 2 → Off o g (rsvM s n T L k))) (fun _ _ iv _ => m - (intOf iv).toNat)
 case atStart => exact ⟨0, h, by omega, by rw [show wrap64 (sumT T 0) = 0 from by simp [sumT, wrap64]], rfl, rfl, Lib.hid rfl, HB0, Lib.hid rfl, HZ0, HS0, Lib.hid (fun o ho _ => ho)⟩
 case round =>
  obtain ⟨k, g, hk, rfl, rfl, rfl, hE0, hbx, hgz, hzb, hsz, hof⟩ := hrel
  by_cases hlt : k < m
  · have hkl : k < T.length := by rw [← HMT.out]; exact hlt
    obtain ⟨b, off, hA, hb, hc⟩ := HRR.out.thing HTT.out (by decide) hkl
    have fx := HTT.out _ (List.getElem_mem hkl)
    have r1 := rangeAt_below (hc k hkl) hb hbx.out.bel
    rw [show kTake.length = 5 from rfl] at r1
    have hgt : T.getD k [] = T[k] := by rw [List.getD_eq_getElem?_getD, List.getElem?_eq_getElem hkl]; rfl
    obtain ⟨t, ht⟩ : ∃ t, T.getD k [] = t := ⟨_, rfl⟩
    rw [← hgt, ht] at fx r1
    have hcell := tk_cells fx
    obtain ⟨⟨kb, ki, kl, ks⟩, hky⟩ : ∃ z, tqK t = z := ⟨_, rfl⟩
    obtain ⟨tn, htn⟩ : ∃ z, tqN t = z := ⟨_, rfl⟩
    rw [hky, htn] at hcell
    simp only [] at hcell
    rw [hcell] at r1
    obtain ⟨G, hG⟩ : ∃ G, rsvM s n T L k = G := ⟨_, rfl⟩
    have htc : tqC s n t = (Cl.mk s n kb ki kl ks tn 0) := by unfold tqC; rw [hky, htn]
    have hs1 := rsvM_succ s n T L k
    rw [hG, ht, hky, htn, htc] at hs1
    have hlen := rsv_len s n T L k hE0.out
    rw [hG] at hlen hbx hof
    have hsum := sumT_succ T hkl
    rw [ht, htn] at hsum
    obtain ⟨er, her⟩ : ∃ z, holdE (G 4) (Ky.mk kb ki kl ks) tn = z := ⟨_, rfl⟩
    obtain ⟨l4, hl4⟩ : ∃ z, holdL (G 4) (Ky.mk kb ki kl ks) tn = z := ⟨_, rfl⟩
    obtain ⟨ec, hec⟩ : ∃ z, claimE (G 8) (Cl.mk s n kb ki kl ks tn 0) = z := ⟨_, rfl⟩
    obtain ⟨l8, hl8⟩ : ∃ z, claimL (G 8) (Cl.mk s n kb ki kl ks tn 0) = z := ⟨_, rfl⟩
    have hee : rsvE s n T L (k + 1) = if er ≠ 0 then er else ec := by
     rw [show rsvE s n T L (k + 1) = rsvE1 (rsvM s n T L k) s n (T.getD k []) from firstE_one hE0.out, hG, ht]
     unfold rsvE1
     rw [hky, htn, htc, her, hec]
    have HHIT : Hid ((if er ≠ 0 then er else ec) ≠ 0 → E = if er ≠ 0 then er else ec) := Lib.hid (fun h1 => by rw [← HEV.out, ← hee]; rw [← hee] at h1; exact firstE_le _ (by omega) h1)
    have HGO : Hid ((if er ≠ 0 then er else ec) = 0 → rsvE s n T L (k + 1) = 0) := Lib.hid (fun h1 => by rw [hee]; exact h1)
    rw [hl4, hl8] at hs1
    have HS1 := Lib.hid hs1
    have HG4 : Hid ((G 4).length ≤ 1000 ∧ (G 8).length ≤ 1000) := Lib.hid ⟨Nat.le_trans hlen.1 HLN.out.1, Nat.le_trans hlen.2 (by have := HLN.out.2; omega)⟩
    have HL4 : Hid (Things (kOf 4) l4 ∧ l4.length ≤ 1000000) := Lib.hid ⟨by rw [← hl4]; exact holdL_things (hbx.out.ht 4 (by decide)).2.2.1 _ _, by rw [← hl4]; have h1 : (holdL (G 4) (Ky.mk kb ki kl ks) tn).length ≤ (G 4).length + 1 := upQ_len _ _; have h2 := HG4.out.1; omega⟩
    have HL8 : Hid (ec = 0 → Things (kOf 8) l8 ∧ l8.length ≤ 1000000) := Lib.hid (fun h0 => ⟨by rw [← hl8]; exact claimL_things (hbx.out.ht 8 (by decide)).2.2.1 _, by rw [← hl8]; have h1 := claimL_len (hec.trans h0); have h2 := HG4.out.2; omega⟩)
    have CH : Hid (∀ W, HT g G W → Calls Tryz.prog 98 #[.agg g.cells, .agg #[.string kb, .string ki, .string kl, .int .i64 ks], .int .i64 tn] W (HouseP er (setE 0 G 4 l4) g G W)) := Lib.hid (fun W hW => by
     have h1 := chold g G kb ki kl ks tn W hW (by rw [(hW 4 (by decide)).1]; have := HG4.out.1; omega) (hbx.out.caps 4 (by decide))
     rw [her, hl4] at h1
     exact h1.mono (fun e w' H => H.house (by decide) HL4.out.1 HL4.out.2 hW))
    have CC : Hid (∀ (q : Hs) W, HT q (setE 0 G 4 l4) W → Caps q → Calls Tryz.prog 13 #[.agg q.cells, .agg #[.string s, .int .i64 n, .string kb, .string ki, .string kl, .int .i64 ks, .int .i64 tn, .int .i64 0]] W (PutP 46 8 8 ec l8 q W)) := Lib.hid (fun q W hW hcq => by
     have h8 : setE 0 G 4 l4 8 = G 8 := setE_off rfl _ (by decide) _
     have h1 := cclaim q (setE 0 G 4 l4) s n kb ki kl ks tn 0 W hW (by rw [(hW 8 (by decide)).1, h8]; have := HG4.out.2; omega) (hcq 8 (by decide))
     rw [h8, hec, hl8] at h1
     exact h1)
    have HRT : Hid (wr.rangeAt b (off + k * 5) [.string kb, .string ki, .string kl, .int .i64 ks, .int .i64 tn]) := Lib.hid r1
    have hbw : b < wr.heap.size := Nat.lt_of_lt_of_le hb hbx.out.bel.size
    have HSUM := Lib.hid hsum
    have h1 : (0 : Int) ≤ (k : Int) := by omega
    have h2 : (k : Int) < (m : Int) := by omega
    rw [hA]
    clear hc r1 fx hgt ht hcell hky htn htc hs1 hlen hee her hl4 hec hl8 hG hkl hA hb hsum
    obtain ⟨w1, hw1⟩ : ∃ W, W = wr.alloc (.cells #[.string kb, .string ki, .string kl, .int .i64 ks, .int .i64 tn] 135) := ⟨_, rfl⟩
    have hb1 : Below wr.heap.size wr w1 := by rw [hw1]; exact (Below.refl _ _).alloc (Nat.le_refl _) _
    have HB1 := Lib.hid (hbx.out.below hb1)
    have HZ1 := Lib.hid ((hb1.block _ (lt_of_block hzb.out)).trans hzb.out)
    have HX1 : Hid (w1.heap[wr.heap.size]? = some (.cells #[.string kb, .string ki, .string kl, .int .i64 ks, .int .i64 tn] 135 (0, 0))) := Lib.hid (by rw [hw1]; exact heap_alloc_new _ _)
    have HW1 := Lib.hid hw1
    clear hb1 hw1
    go_upto_region 5 with (first
     | (refine wpList_load_mid rfl 135 (.tmp 19) rfl b (off + k * 5) rfl [.string kb, .string ki, .string kl, .int .i64 ks, .int .i64 tn] _ HRT.out huT rfl HST5.out ?_)
     | fail)
    rw [← HW1.out]
    have c4 : w1.cell? ⟨wr.heap.size, 4, none⟩ = some (.int .i64 tn) := by rw [cell_of_block HX1.out]; rfl
    have clt := lt_of_block HX1.out
    have HRK : Hid (w1.rangeAt wr.heap.size 0 [.string kb, .string ki, .string kl, .int .i64 ks]) := Lib.hid (range_part (pre := []) (post := [.int .i64 tn]) HX1.out)
    go_wp2_with (first
     | (refine wpList_load_row rfl 37 (.tmp 4) rfl w.heap.size rfl _ _ _ _ HB1.out.box huh rfl (HSH.out _) ?_)
     | (refine wpList_load_mid rfl 44 (.tmp 23) rfl wr.heap.size 0 rfl [.string kb, .string ki, .string kl, .int .i64 ks] _ HRK.out huK rfl HSK4.out ?_)
     | fail)
    refine (CH.out _ HB1.out.ht).mono ?_
    rintro e w2 ⟨hb2, q, rfl, hq, hqz, hqc, hqo⟩
    clear c4 clt HRK
    have HB2 := Lib.hid (HB1.out.below hb2)
    have HQ2 := Lib.hid hq
    have HQZ := Lib.hid hqz
    have HQC := Lib.hid (hqc HB1.out.caps)
    have HQO := Lib.hid hqo
    have HS12 := Lib.hid HB1.out.sz
    have HS12B : Hid (w.heap.size + 2 ≤ w1.heap.size) := Lib.hid (by have := lt_of_block HZ1.out; omega)
    have HX2 := Lib.hid ((hb2.block _ (lt_of_block HX1.out)).trans HX1.out)
    have HZ2 := Lib.hid ((hb2.block _ (lt_of_block HZ1.out)).trans HZ1.out)
    clear hb2 hq hqz hqc hqo
    have HOW : Hid (Off w.heap.size q (setX er (setE 0 G 4 l4))) := Lib.hid (HQO.out _ HB1.out.off HS12.out)
    obtain ⟨w3, hw3⟩ : ∃ W, W = w2.setRow w.heap.size q.cells := ⟨_, rfl⟩
    have HB3 : Hid (HBox w q (setX er (setE 0 G 4 l4)) w3) := Lib.hid (by rw [hw3]; exact HB2.out.store HQ2.out HQC.out HOW.out)
    have HX3 : Hid (w3.heap[wr.heap.size]? = some (.cells #[.string kb, .string ki, .string kl, .int .i64 ks, .int .i64 tn] 135 (0, 0))) := Lib.hid (by rw [hw3]; exact (setRow_other _ _ _ _ (by have := hsz.out; omega)).trans HX2.out)
    have HZ3 : Hid (w3.heap[w.heap.size + 1]? = some (.cells Hs.zero 37 (0, 0))) := Lib.hid (by rw [hw3]; exact (setRow_other _ _ _ _ (by omega)).trans HZ2.out)
    have HW3 := Lib.hid hw3
    clear hw3
    by_cases hk0 : er = 0
    · subst hk0
      rw [setX_ok rfl] at HB3 HOW HQO
      have HHIT2 : Hid (ec ≠ 0 → E = ec) := Lib.hid (fun h1 => by have := HHIT.out; simp only [ne_eq, not_true_eq_false, if_false] at this; exact this h1)
      have HGO2 : Hid (ec = 0 → rsvE s n T L (k + 1) = 0) := Lib.hid (fun h1 => HGO.out (by simp [h1]))
      go_upto_region 8 with (first
       | (refine wpList_store_row rfl 37 (.tmp 4) (.tmp 28) rfl w.heap.size q.cells rfl rfl _ _ HB2.out.box (HSH.out _) rfl (H1C.out _) ?_; rw [← HW3.out])
       | fail)
      have c4 : w3.cell? ⟨wr.heap.size, 4, none⟩ = some (.int .i64 tn) := by rw [cell_of_block HX3.out]; rfl
      have clt := lt_of_block HX3.out
      have HRK : Hid (w3.rangeAt wr.heap.size 0 [.string kb, .string ki, .string kl, .int .i64 ks]) := Lib.hid (range_part (pre := []) (post := [.int .i64 tn]) HX3.out)
      go_wp2_with (first
       | (refine wpList_load_row rfl 37 (.tmp 4) rfl w.heap.size rfl _ _ _ _ HB3.out.box huh rfl (HSH.out _) ?_)
       | (refine wpList_load_mid rfl 44 (.tmp 38) rfl wr.heap.size 0 rfl [.string kb, .string ki, .string kl, .int .i64 ks] _ HRK.out huK rfl HSK4.out ?_)
       | fail)
      refine (CC.out q _ HB3.out.ht HB3.out.caps).mono ?_
      intro e w4 hpp
      obtain ⟨hb4, u, rfl, hu⟩ := hpp.k
      clear c4 clt HRK hpp
      have HB4 := Lib.hid (HB3.out.below hb4)
      have HX4 := Lib.hid ((hb4.block _ (lt_of_block HX3.out)).trans HX3.out)
      have HZ4 := Lib.hid ((hb4.block _ (lt_of_block HZ3.out)).trans HZ3.out)
      have HU := Lib.hid hu
      have HS34 := Lib.hid HB3.out.sz
      have HS34B : Hid (w.heap.size + 2 ≤ w3.heap.size) := Lib.hid (by have := lt_of_block HZ3.out; omega)
      clear hb4 hu
      obtain ⟨w5, hw5⟩ : ∃ W, W = w4.setRow w.heap.size u.cells := ⟨_, rfl⟩
      have HX5 : Hid (w5.heap[wr.heap.size]? = some (.cells #[.string kb, .string ki, .string kl, .int .i64 ks, .int .i64 tn] 135 (0, 0))) := Lib.hid (by rw [hw5]; exact (setRow_other _ _ _ _ (by have := hsz.out; omega)).trans HX4.out)
      have HZ5 : Hid (w5.heap[w.heap.size + 1]? = some (.cells Hs.zero 37 (0, 0))) := Lib.hid (by rw [hw5]; exact (setRow_other _ _ _ _ (by omega)).trans HZ4.out)
      have HB5 : Hid (Below w.heap.size w w5) := Lib.hid (by rw [hw5]; exact setRow_below HB4.out.bel (Nat.le_refl _) _)
      have HB5S : Hid (ec = 0 → HBox w u (setE 0 (setE 0 G 4 l4) 8 l8) w5 ∧ u.z = q.z ∧ ∀ o, o < w3.heap.size → Off o q (setE 0 G 4 l4) → Off o u (setE 0 (setE 0 G 4 l4) 8 l8)) := Lib.hid (fun h0 => by
       subst h0
       have hx := HL8.out rfl
       have ho : ∀ o, o < w3.heap.size → Off o q (setE 0 G 4 l4) → Off o u (setE 0 (setE 0 G 4 l4) 8 l8) := fun o h1 h2 => HU.out.off h1 h2
       refine ⟨?_, ?_, ho⟩
       · rw [hw5]; exact HB4.out.store (HU.out.htl (by decide) hx.1 hx.2 HB4.out.ht) (HU.out.caps HB3.out.caps) (ho _ HS34.out HB3.out.off)
       · rcases HU.out with ⟨h1, _⟩ | ⟨_, A2, n2, c2, _, _, h2⟩
         · exact absurd rfl h1
         · rw [h2]; rfl)
      have HS5 : Hid (w.heap.size + 2 ≤ w5.heap.size) := Lib.hid (by have := lt_of_block HZ5.out; omega)
      have HW5 := Lib.hid hw5
      clear hw5
      by_cases hk0 : ec = 0
      · subst hk0
        have HGK : Hid (rsvE s n T L (k + 1) = 0) := Lib.hid (HGO2.out rfl)
        obtain ⟨hbx5, huz, huo⟩ := HB5S.out rfl
        have HBX5 := Lib.hid hbx5
        have HUZ := Lib.hid huz
        have HUO := Lib.hid huo
        clear hbx5 huz huo
        go_upto_region 11 with (first
         | (refine wpList_store_row rfl 37 (.tmp 4) (.tmp 44) rfl w.heap.size u.cells rfl rfl _ _ HB4.out.box (HSH.out _) rfl (H1C.out _) ?_; rw [← HW5.out])
         | fail)
        have c4 : w5.cell? ⟨wr.heap.size, 4, none⟩ = some (.int .i64 tn) := by rw [cell_of_block HX5.out]; rfl
        have clt := lt_of_block HX5.out
        have HNX : Hid (wrap64 (wrap64 (sumT T k) + tn) = wrap64 (sumT T (k + 1))) := Lib.hid (by rw [HSUM.out, wrap_add2])
        go_wp2_with fail
        go_roundw
        case rel => exact ⟨k + 1, u, by omega, by rw [← HNX.out], rfl, by go_num, HGK, by rw [HS1.out]; exact HBX5, Lib.hid (by rw [HUZ.out, HQZ.out]; exact hgz.out), HZ5, HS5, Lib.hid (fun o h1 h2 => by rw [HS1.out]; exact HUO.out o (Nat.lt_of_lt_of_le h2 HS34B.out) (HQO.out o (hof.out o h1 h2) (Nat.lt_of_lt_of_le h2 HS12B.out)))⟩
        case measure => simp [intOf]; omega
      ·
       have bn : ((ec : Int) != 0) = true := by simpa using hk0
       have HKL := Lib.hid hk0
       clear hk0
       have HE : Hid (E = ec) := Lib.hid (by rw [HHIT2.out HKL.out])
       go_wp2_with (first
        | (refine wpList_store_row rfl 37 (.tmp 4) (.tmp 44) rfl w.heap.size u.cells rfl rfl _ _ HB4.out.box (HSH.out _) rfl (H1C.out _) ?_; rw [← HW5.out])
        | (refine wpList_store_row rfl 37 (.tmp 8) (.tmp 48) rfl (w.heap.size + 1) Hs.zero rfl rfl _ _ HZ5.out HSQ.out rfl H1Q.out ?_)
        | fail)
       exact bodyPost_ret (results_row_tmp2C rfl _ _ (w.heap.size + 1) _ _ _ _ rfl (setRow_heap _ _ _ _ _ _ HZ5.out) huh rfl HSQ.out) rfl (by
        rw [HE.out]
        exact ResvP.bad HKL.out (setRow_below HB5.out (show w.heap.size ≤ w.heap.size + 1 by omega) _))
    ·
     have bn : ((er : Int) != 0) = true := by simpa using hk0
     have HKL := Lib.hid hk0
     clear hk0
     have HE : Hid (E = er) := Lib.hid (by rw [HHIT.out (by simp [HKL.out]), if_pos HKL.out])
     go_wp2_with (first
      | (refine wpList_store_row rfl 37 (.tmp 4) (.tmp 28) rfl w.heap.size q.cells rfl rfl _ _ HB2.out.box (HSH.out _) rfl (H1C.out _) ?_; rw [← HW3.out])
      | (refine wpList_store_row rfl 37 (.tmp 8) (.tmp 32) rfl (w.heap.size + 1) Hs.zero rfl rfl _ _ HZ3.out HSQ.out rfl H1Q.out ?_)
      | fail)
     exact bodyPost_ret (results_row_tmp2C rfl _ _ (w.heap.size + 1) _ _ _ _ rfl (setRow_heap _ _ _ _ _ _ HZ3.out) huh rfl HSQ.out) rfl (by
      rw [HE.out]
      exact ResvP.bad HKL.out (setRow_below HB3.out.bel (show w.heap.size ≤ w.heap.size + 1 by omega) _))
  · have hkm : k = m := by omega
    subst hkm
    have HE : Hid (E = 0) := Lib.hid (by rw [← HEV.out]; exact hE0.out)
    rw [HMV.out] at hbx hof
    rw [HZV.out]
    go_wp2_with (first
     | (refine wpList_load_row rfl 37 (.tmp 4) rfl w.heap.size rfl _ _ _ _ hbx.out.box huh rfl (HSH.out _) ?_)
     | (refine wpList_store_row rfl 37 (.tmp 8) (.tmp 55) rfl (w.heap.size + 1) g.cells rfl rfl _ _ hzb.out (HSH.out _) rfl (H1C.out _) ?_)
     | fail)
    exact bodyPost_ret (results_row_tmp2C rfl _ _ (w.heap.size + 1) _ _ _ _ rfl (setRow_heap _ _ _ _ _ _ hzb.out) huh rfl (HSH.out _)) rfl (by
     rw [HE.out]
     have ho1 : Off (w.heap.size + 1) g M := hof.out _ (HOH.out _ (by omega)) (by omega)
     refine ⟨setRow_below hbx.out.bel (show w.heap.size ≤ w.heap.size + 1 by omega) _, g, rfl, ?_, hgz.out, hbx.out.caps, fun o h1 h2 => ?_⟩
     · rw [setX_ok rfl]; exact hbx.out.ht.setRowOff ho1 _
     · rw [setX_ok rfl]; exact hof.out o h1 (by omega))
end Go.Proofs.YtlkmccmbpnbgbaaGreat
