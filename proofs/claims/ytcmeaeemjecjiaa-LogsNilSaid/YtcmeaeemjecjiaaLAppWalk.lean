/-
  CONTRACT of Append: the walk.
-/
import Derived.Test.YtcmeaeemjecjiaaLAppend
import Derived.Deep.CutRange
namespace Go.Proofs.Ytcmeaeemjecjiaa
open Go.RowKit Go.Maps
open Fm (sc sc_length)

set_option maxRecDepth 100000 in
set_option maxHeartbeats 6400000 in
theorem append_any (X : Nat → Prop) (b bl n : Nat) (s : St) (lo nn : Nat) (pre : List (List ByteArray)) (cur : List ByteArray) (w : World) (h : LM LO w X b bl n s lo nn pre cur) (hoff : s.off = false) (hn : n ≤ 500000) (hN : nn + Pl.cnt pre + cur.length ≤ 100000) (hL : lo + pre.length ≤ 100000) (data : ByteArray) :
    Calls Try.prog 10 #[.pointer (some ⟨bl, 0, none⟩), .string data] w (AppPost w X b bl n s lo nn pre cur data) := by
  have HLM := Lib.hid h
  obtain ⟨Y, Z, hM, ⟨bm, c, hG, hI, hc, hZ⟩, hd, hX, hinv⟩ := h
  have hbne : bm ≠ bl := hI.ne_cells hG
  have hn1 := hinv.n1
  have hE16 := hinv.le
  have HINV := Lib.hid hinv
  have HOFF := Lib.hid hoff
  have HC := Lib.hid hc
  have HNB := Lib.hid hN
  obtain ⟨E, hE⟩ : ∃ E, E = (Pl.segL (nn + Pl.cnt pre) cur).length := ⟨_, rfl⟩
  obtain ⟨sg, hsg⟩ : ∃ sg, sg = lo + pre.length := ⟨_, rfl⟩
  obtain ⟨N, hNN⟩ : ∃ N, N = nn + Pl.cnt pre + cur.length := ⟨_, rfl⟩
  have HE := Lib.hid hE
  have HSG := Lib.hid hsg
  have HNN := Lib.hid hNN
  rw [← hE, ← hsg, ← hNN] at hG
  rw [← hE] at hE16
  rw [← hsg] at hL
  rw [← hNN] at hN hc
  have hN1 : 1 ≤ N := by omega
  have HM := Lib.hid hM
  have HG := Lib.hid hG
  have HI := Lib.hid hI
  have HX : Hid (∀ k, X k ↔ Y k ∨ (k = bl ∨ k = bm)) := Lib.hid (fun k => by rw [hX, hZ])
  have HD : Hid (∀ k, Y k → k < w.heap.size ∧ k ≠ bl ∧ k ≠ bm) := Lib.hid (fun k hk => ⟨hM.lt hk, fun e => hd k hk ((hZ k).2 (.inl e)), fun e => hd k hk ((hZ k).2 (.inr e))⟩)
  have HZL : Hid (bl < w.heap.size ∧ bm < w.heap.size ∧ bm ≠ bl) := Lib.hid ⟨hG.lt, hI.lt, hbne⟩
  have c0 := hG.cl.c0
  have c3 := hG.cl.c3
  have HLAY := Lib.hid (Fm.lay_any (N : Int) data w)
  clear hM hG hI hc hZ hd hX hinv hoff hbne hE hsg hNN hn1
  by_cases hs : data.size ≤ 440
  · have hp8 := Pl.partsN_le hs
    have hp1 := Pl.partsN_pos data.size
    rw [Fm.layF_some hN1 (by omega) hs] at HLAY
    have HS := Lib.hid hs
    have HLEN := Lib.hid (Pl.secs_length N data)
    obtain ⟨K, hK⟩ : ∃ K, K = Pl.partsN data.size := ⟨_, rfl⟩
    rw [← hK] at hp8 hp1 HLEN
    have HK := Lib.hid hK
    clear hs hK
    go_enter Try.func10, Try.ntmps10
    go_wp2_with fail
    refine HLAY.out.mono ?_
    rintro e w1 ⟨v, rfl, A, cA, rfl, _, _, hrd, hb, hab⟩
    rw [HLEN.out] at hab ⊢
    have HRD := Lib.hid hrd
    have HAB := Lib.hid hab
    have HB := Lib.hid hb
    have HG1 : Hid (LG w1 bl b bm (sg : Int) (E : Int) (N : Int)) := Lib.hid ((hb.block _ HZL.out.1).trans HG.out)
    have HA1 : Hid (AS w1 w1 X Y b bl bm n s sg E (N : Int) c (lastV lo nn pre cur) (Pl.secs N data) 0 Y s) := Lib.hid (by
      have hsz := hb.size
      have hz := HZL.out
      exact ⟨HM.out.below hb, HOFF.out, rfl, HG1.out, HI.out.kept (hb.block _ hz.2.1), by rw [List.take_zero, Pl.puts_nil], fun k hk => .inl hk, Only.refl _ _, fun k hk => ⟨by have := (HD.out k hk).1; omega, (HD.out k hk).2⟩, HX.out, ⟨by omega, by omega⟩, hz.2.2⟩)
    have HLR : Hid (∀ wr, Only X w1 wr → ∀ k, k < K → ∃ ba oa d, A = some ⟨ba, oa, none⟩ ∧ (Pl.secs N data)[k]? = some d ∧ wr.cell? ⟨ba, oa + k, none⟩ = some (.string d)) := Lib.hid (fun wr ho k hk => by
      have hkl : k < (Pl.secs N data).length := by rw [HLEN.out]; exact hk
      obtain ⟨ba, oa, rfl, hba, hcs⟩ := hrd.str_at hkl
      have hab' := hab ba rfl
      refine ⟨ba, oa, (Pl.secs N data)[k], rfl, List.getElem?_eq_getElem hkl, ?_⟩
      have hnx' : ¬ X ba := fun hx => by
        rcases (HX.out ba).1 hx with h1 | h1
        · have := (HD.out ba h1).1; omega
        · have := HZL.out; omega
      exact (World.cell?_of_block (w := w1) (ho.block ba hba hnx')).trans (hcs k hkl))
    have HEND : Hid (∀ e w', AppPost w1 X b bl n s lo nn pre cur data e w' → AppPost w X b bl n s lo nn pre cur data e w') := Lib.hid (fun e w' ⟨h1, X', h2, h3⟩ => ⟨(Only.below hb).tr h1, X', fun k hk => (h2 k hk).imp id (fun h => Nat.le_trans hb.size h), h3⟩)
    clear hrd hab hb c0 c3 HLAY HLM
    have c1 := HG1.out.cl.c1
    have c2 := HG1.out.cl.c2
    have f1 := HG1.out.cl.f1
    have f2 := HG1.out.cl.f2
    obtain ⟨f0, hf0⟩ : ∃ f0, f0 = (Pl.place (lo + pre.length) (Pl.segL (nn + Pl.cnt pre) cur).length (Pl.partsN data.size)).1 := ⟨_, rfl⟩
    obtain ⟨a0, ha0⟩ : ∃ a0, a0 = (Pl.place (lo + pre.length) (Pl.segL (nn + Pl.cnt pre) cur).length (Pl.partsN data.size)).2 := ⟨_, rfl⟩
    have HF0 := Lib.hid hf0
    have HA0 := Lib.hid ha0
    clear hf0 ha0
    by_cases hfit : E + K ≤ 16
    · have g1 : decide ((16 : Int) < (E : Int) + (K : Int)) = false := decide_eq_false (by omega)
      have HPL : Hid (f0 = sg ∧ a0 = E) := Lib.hid (by
        rw [HF0.out, HA0.out]
        unfold Pl.place
        rw [← HE.out, ← HK.out, ← HSG.out, if_pos hfit]
        exact ⟨rfl, rfl⟩)
      have HAZ : Hid (AS w1 w1 X Y b bl bm n s f0 a0 (N : Int) c (lastV lo nn pre cur) (Pl.secs N data) 0 Y s) := Lib.hid (by rw [HPL.out.1, HPL.out.2]; exact HA1.out)
      have hb0 : a0 ≤ 16 := by rw [HPL.out.2]; exact hE16
      have hb1 : f0 ≤ 100001 := by rw [HPL.out.1]; omega
      clear hfit HG1 HA1 HPL
      go_wp2_with fail
      clear g1 c1 c2 f1 f2
      have HCUT : Hid (∀ wr w' i Y' s' Y'' s'', AS w1 wr X Y b bl bm n s f0 a0 (N : Int) c (lastV lo nn pre cur) (Pl.secs N data) i Y' s' → i < K → s.armed = true → M w' Y'' b (n + i + 1) s'' → Only Y' wr w' → (∀ k, Y'' k → Y' k ∨ wr.heap.size ≤ k) → mdT s'' = mdT s' →
          AppPost w X b bl n s lo nn pre cur data (.returned (.tuple #[.int .i64 0, .int .i64 40])) w') := Lib.hid (fun wr w' i Y' s' Y'' s'' h hi ha hm ho hn hmd => by
        have e1 := HF0.out
        have e2 := HA0.out
        have e3 := HNN.out
        subst e1 e2 e3
        exact HEND.out _ _ (h.cut HINV.out HS.out (by rw [← HK.out]; exact hi) ha hm ho hn hmd))
      have HDONE : Hid (∀ wr w' Y' s' e, AS w1 wr X Y b bl bm n s f0 a0 (N : Int) c (lastV lo nn pre cur) (Pl.secs N data) K Y' s' → EndPost bl b bm c (lastV lo nn pre cur) (N : Int) (f0 : Int) ((a0 : Int) + (K : Int)) wr e w' → AppPost w X b bl n s lo nn pre cur data (.returned (.tuple #[.int .i64 (N : Int), .int .i64 0])) w') := Lib.hid (fun wr w' Y' s' e h he => by
        have e1 := HF0.out
        have e2 := HA0.out
        have e3 := HNN.out
        have e4 := HK.out
        subst e1 e2 e3 e4
        exact HEND.out _ _ (h.done HINV.out HS.out HNB.out HC.out he))
      go_loopw [47] (fun v47 wr => ∃ i : Nat, i ≤ K ∧ v47 = .int .i64 (i : Int) ∧ Hid (∃ Y' s', AS w1 wr X Y b bl bm n s f0 a0 (N : Int) c (lastV lo nn pre cur) (Pl.secs N data) i Y' s')) (fun v47 _ => K - (RowKit.intOf v47).toNat)
      case atStart => exact ⟨0, by omega, rfl, Lib.hid ⟨_, _, HAZ.out⟩⟩
      case round =>
        obtain ⟨i, hi, rfl, HH⟩ := hrel
        obtain ⟨Y', s', hT⟩ := HH.out
        have HT := Lib.hid hT
        clear hT HH HAZ
        have c0 := HT.out.g.cl.c0
        have c1 := HT.out.g.cl.c1
        have c2 := HT.out.g.cl.c2
        have c3 := HT.out.g.cl.c3
        by_cases hlt : i < K
        · obtain ⟨ba, oa, d, rfl, hd, hc0⟩ := HLR.out wr HT.out.only i hlt
          have HDD := Lib.hid hd
          have hw1 : -9223372036854775808 ≤ (a0 : Int) + (i : Int) := by omega
          have hw2 : (a0 : Int) + (i : Int) ≤ 9223372036854775807 := by omega
          have HTD := Lib.hid (HT.out.below (Fm.World.drew_below wr))
          have HWR : Hid (Calls Try.prog 22 #[.pointer (some ⟨b, 0, none⟩), .int .i64 (f0 : Int), .int .i64 ((a0 : Int) + (i : Int)), .string d] wr.drew fun e w2 =>
              (e = .returned (.int .i64 40) ∧ Hid (AppPost w X b bl n s lo nn pre cur data (.returned (.tuple #[.int .i64 0, .int .i64 40])) w2)) ∨
              (e = .returned (.int .i64 0) ∧ Hid (∃ Y'' s'', AS w1 w2 X Y b bl bm n s f0 a0 (N : Int) c (lastV lo nn pre cur) (Pl.secs N data) (i + 1) Y'' s''))) := Lib.hid (by
            refine (writeX Y' b (n + i) s' (f0 : Int) ((a0 + i : Nat) : Int) d wr.drew HTD.out.m (by omega) (by constructor <;> omega) (by constructor <;> omega)).mono ?_
            rintro e w2 ⟨Y'', he, hm2, ho2, hn2⟩
            rcases write_cases (s := s') (f := f0) (a := a0 + i) (d := d) HT.out.off (by omega) (by omega) (secs_size hN1 (by omega) HS.out hd) with ⟨h40, ha, hmd⟩ | ⟨h00, ho0, ha0', hmd⟩
            · rw [h40] at he
              exact .inl ⟨he, Lib.hid (HCUT.out wr.drew w2 i Y' s' Y'' _ HTD.out hlt (by rw [← HT.out.armed]; exact ha) hm2 ho2 hn2 hmd)⟩
            · rw [h00] at he
              exact .inr ⟨he, Lib.hid ⟨Y'', _, HTD.out.step hd hm2 ho2 hn2 ho0 ha0' hmd⟩⟩)
          clear hd
          go_wp2_with fail
          go_still_tail 15, (by kernel_rfl)
          change wpList _ _ _ _ _ (World.drew _)
          clear c0 c1 c2 c3 hc0
          go_wp2_with fail
          refine HWR.out.mono ?_
          rintro e w2 (⟨rfl, HP⟩ | ⟨rfl, HP⟩)
          · clear HWR
            go_wp2_with fail
            go_ret2
            exact HP.out
          · clear HWR
            go_wp2_with fail
            go_roundw
            case rel => exact ⟨i + 1, by omega, by go_num, HP⟩
            case measure => simp [RowKit.intOf]; omega
        · obtain rfl : i = K := by omega
          have HTD := Lib.hid (HT.out.below (Fm.World.drew_below wr))
          have HED := Lib.hid (end_any bl b bm c (lastV lo nn pre cur) (N : Int) (f0 : Int) ((a0 : Int) + (i : Int)) (f0 : Int) (a0 : Int) (N : Int) wr.drew HTD.out.g HTD.out.im (by have := HC.out; have := HNN.out; omega) (by omega) (by omega) (by constructor <;> omega))
          have hw1 : -9223372036854775808 ≤ (a0 : Int) + (i : Int) := by omega
          have hw2 : (a0 : Int) + (i : Int) ≤ 9223372036854775807 := by omega
          go_wp2_with fail
          go_still_tail 13, (by kernel_rfl)
          change wpList _ _ _ _ _ (World.drew _)
          clear c0 c1 c2 c3
          go_wp2_with fail
          refine HED.out.mono ?_
          rintro e w2 he
          have HP := Lib.hid (HDONE.out wr.drew w2 Y' s' e HTD.out he)
          obtain ⟨rfl, _⟩ := he
          clear HED
          go_wp2_with fail
          go_ret2
          exact HP.out
    · have g1 : decide ((16 : Int) < (E : Int) + (K : Int)) = true := decide_eq_true (by omega)
      have HPL : Hid (f0 = sg + 1 ∧ a0 = 0) := Lib.hid (by
        rw [HF0.out, HA0.out]
        unfold Pl.place
        rw [← HE.out, ← HK.out, ← HSG.out, if_neg hfit]
        exact ⟨rfl, rfl⟩)
      have HAZ : Hid (AS w1 ((w1.setCell ⟨bl, 1, none⟩ (.int .i64 ((sg : Int) + 1))).setCell ⟨bl, 2, none⟩ (.int .i64 0)) X Y b bl bm n s f0 a0 (N : Int) c (lastV lo nn pre cur) (Pl.secs N data) 0 Y s) := Lib.hid (by
        rw [HPL.out.1, HPL.out.2]
        have h := HA1.out
        have e : ∀ k, k ≠ bl → ((w1.setCell ⟨bl, 1, none⟩ (.int .i64 ((sg : Int) + 1))).setCell ⟨bl, 2, none⟩ (.int .i64 0)).heap[k]? = w1.heap[k]? := fun k hk => (block_setCell_other hk _).trans (block_setCell_other hk _)
        refine ⟨h.m.keptB (fun k hk => e k (h.yl k hk).2.1), h.off, h.armed, ?_, h.im.kept (e bm h.bne), by rw [List.take_zero, Pl.puts_nil], h.new, ?_, h.yl, h.x, h.zl, h.bne⟩
        · show _ = _
          rw [block_setCell (block_setCell h.g _) _]; rfl
        · exact (Only.setCell w1 (a := ⟨bl, 1, none⟩) ((h.x bl).2 (.inr (.inl rfl))) _).tr (Only.setCell _ (a := ⟨bl, 2, none⟩) ((h.x bl).2 (.inr (.inl rfl))) _))
      have hb0 : a0 ≤ 16 := by rw [HPL.out.2]; omega
      have hb1 : f0 ≤ 100001 := by rw [HPL.out.1]; omega
      clear hfit HG1 HA1 HPL
      go_wp2_with fail
      generalize ((w1.setCell ⟨bl, 1, none⟩ (.int .i64 ((sg : Int) + 1))).setCell ⟨bl, 2, none⟩ (.int .i64 0)) = wA at HAZ ⊢
      clear g1 c1 c2 f1 f2
      have HCUT : Hid (∀ wr w' i Y' s' Y'' s'', AS w1 wr X Y b bl bm n s f0 a0 (N : Int) c (lastV lo nn pre cur) (Pl.secs N data) i Y' s' → i < K → s.armed = true → M w' Y'' b (n + i + 1) s'' → Only Y' wr w' → (∀ k, Y'' k → Y' k ∨ wr.heap.size ≤ k) → mdT s'' = mdT s' →
          AppPost w X b bl n s lo nn pre cur data (.returned (.tuple #[.int .i64 0, .int .i64 40])) w') := Lib.hid (fun wr w' i Y' s' Y'' s'' h hi ha hm ho hn hmd => by
        have e1 := HF0.out
        have e2 := HA0.out
        have e3 := HNN.out
        subst e1 e2 e3
        exact HEND.out _ _ (h.cut HINV.out HS.out (by rw [← HK.out]; exact hi) ha hm ho hn hmd))
      have HDONE : Hid (∀ wr w' Y' s' e, AS w1 wr X Y b bl bm n s f0 a0 (N : Int) c (lastV lo nn pre cur) (Pl.secs N data) K Y' s' → EndPost bl b bm c (lastV lo nn pre cur) (N : Int) (f0 : Int) ((a0 : Int) + (K : Int)) wr e w' → AppPost w X b bl n s lo nn pre cur data (.returned (.tuple #[.int .i64 (N : Int), .int .i64 0])) w') := Lib.hid (fun wr w' Y' s' e h he => by
        have e1 := HF0.out
        have e2 := HA0.out
        have e3 := HNN.out
        have e4 := HK.out
        subst e1 e2 e3 e4
        exact HEND.out _ _ (h.done HINV.out HS.out HNB.out HC.out he))
      go_loopw [47] (fun v47 wr => ∃ i : Nat, i ≤ K ∧ v47 = .int .i64 (i : Int) ∧ Hid (∃ Y' s', AS w1 wr X Y b bl bm n s f0 a0 (N : Int) c (lastV lo nn pre cur) (Pl.secs N data) i Y' s')) (fun v47 _ => K - (RowKit.intOf v47).toNat)
      case atStart => exact ⟨0, by omega, rfl, Lib.hid ⟨_, _, HAZ.out⟩⟩
      case round =>
        obtain ⟨i, hi, rfl, HH⟩ := hrel
        obtain ⟨Y', s', hT⟩ := HH.out
        have HT := Lib.hid hT
        clear hT HH HAZ
        have c0 := HT.out.g.cl.c0
        have c1 := HT.out.g.cl.c1
        have c2 := HT.out.g.cl.c2
        have c3 := HT.out.g.cl.c3
        by_cases hlt : i < K
        · obtain ⟨ba, oa, d, rfl, hd, hc0⟩ := HLR.out wr HT.out.only i hlt
          have HDD := Lib.hid hd
          have hw1 : -9223372036854775808 ≤ (a0 : Int) + (i : Int) := by omega
          have hw2 : (a0 : Int) + (i : Int) ≤ 9223372036854775807 := by omega
          have HTD := Lib.hid (HT.out.below (Fm.World.drew_below wr))
          have HWR : Hid (Calls Try.prog 22 #[.pointer (some ⟨b, 0, none⟩), .int .i64 (f0 : Int), .int .i64 ((a0 : Int) + (i : Int)), .string d] wr.drew fun e w2 =>
              (e = .returned (.int .i64 40) ∧ Hid (AppPost w X b bl n s lo nn pre cur data (.returned (.tuple #[.int .i64 0, .int .i64 40])) w2)) ∨
              (e = .returned (.int .i64 0) ∧ Hid (∃ Y'' s'', AS w1 w2 X Y b bl bm n s f0 a0 (N : Int) c (lastV lo nn pre cur) (Pl.secs N data) (i + 1) Y'' s''))) := Lib.hid (by
            refine (writeX Y' b (n + i) s' (f0 : Int) ((a0 + i : Nat) : Int) d wr.drew HTD.out.m (by omega) (by constructor <;> omega) (by constructor <;> omega)).mono ?_
            rintro e w2 ⟨Y'', he, hm2, ho2, hn2⟩
            rcases write_cases (s := s') (f := f0) (a := a0 + i) (d := d) HT.out.off (by omega) (by omega) (secs_size hN1 (by omega) HS.out hd) with ⟨h40, ha, hmd⟩ | ⟨h00, ho0, ha0', hmd⟩
            · rw [h40] at he
              exact .inl ⟨he, Lib.hid (HCUT.out wr.drew w2 i Y' s' Y'' _ HTD.out hlt (by rw [← HT.out.armed]; exact ha) hm2 ho2 hn2 hmd)⟩
            · rw [h00] at he
              exact .inr ⟨he, Lib.hid ⟨Y'', _, HTD.out.step hd hm2 ho2 hn2 ho0 ha0' hmd⟩⟩)
          clear hd
          go_wp2_with fail
          go_still_tail 15, (by kernel_rfl)
          change wpList _ _ _ _ _ (World.drew _)
          clear c0 c1 c2 c3 hc0
          go_wp2_with fail
          refine HWR.out.mono ?_
          rintro e w2 (⟨rfl, HP⟩ | ⟨rfl, HP⟩)
          · clear HWR
            go_wp2_with fail
            go_ret2
            exact HP.out
          · clear HWR
            go_wp2_with fail
            go_roundw
            case rel => exact ⟨i + 1, by omega, by go_num, HP⟩
            case measure => simp [RowKit.intOf]; omega
        · obtain rfl : i = K := by omega
          have HTD := Lib.hid (HT.out.below (Fm.World.drew_below wr))
          have HED := Lib.hid (end_any bl b bm c (lastV lo nn pre cur) (N : Int) (f0 : Int) ((a0 : Int) + (i : Int)) (f0 : Int) (a0 : Int) (N : Int) wr.drew HTD.out.g HTD.out.im (by have := HC.out; have := HNN.out; omega) (by omega) (by omega) (by constructor <;> omega))
          have hw1 : -9223372036854775808 ≤ (a0 : Int) + (i : Int) := by omega
          have hw2 : (a0 : Int) + (i : Int) ≤ 9223372036854775807 := by omega
          go_wp2_with fail
          go_still_tail 13, (by kernel_rfl)
          change wpList _ _ _ _ _ (World.drew _)
          clear c0 c1 c2 c3
          go_wp2_with fail
          refine HED.out.mono ?_
          rintro e w2 he
          have HP := Lib.hid (HDONE.out wr.drew w2 Y' s' e HTD.out he)
          obtain ⟨rfl, _⟩ := he
          clear HED
          go_wp2_with fail
          go_ret2
          exact HP.out
  · have g1 : decide ((440 : Int) < (data.size : Int)) = true := decide_eq_true (by omega)
    rw [Fm.layF_none (.inr (by omega))] at HLAY
    have HS := Lib.hid hs
    clear hs g1
    go_enter Try.func10, Try.ntmps10
    go_wp2_with fail
    refine HLAY.out.mono ?_
    rintro e w1 ⟨rfl, hb⟩
    have HP : Hid (AppPost w X b bl n s lo nn pre cur data (.returned (.tuple #[.int .i64 0, .int .i64 43])) w1) := Lib.hid (by
      refine ⟨Only.below hb, X, fun k hk => .inl hk, .inl ⟨by have := HS.out; omega, rfl, ?_⟩⟩
      obtain ⟨Y, Z, hM, hLO, hd, hX, hinv⟩ := HLM.out
      exact ⟨Y, Z, hM.below hb, LX.below hLO hb, hd, hX, hinv⟩)
    clear hb HLAY
    go_wp2_with fail
    go_ret2
    exact HP.out
end Go.Proofs.Ytcmeaeemjecjiaa
