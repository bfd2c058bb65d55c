/-
 CONTRACT of the rows' drop, for things of one kind. (By wip/tools/gen_table.py.)
-/
import Derived.Test.YtgbilfkjfeheaaaGreatGT
import Derived.Test.YtgbilfkjfeheaaaGreatHA
namespace Go.Proofs.YtgbilfkjfeheaaaGreat
set_option linter.unusedVariables false
open Go.RowKit
open Pl (firstG findG putG dropG dropK dropS dropK_succ dropK_all dropK_len)

set_option maxRecDepth 100000 in
set_option maxHeartbeats 3200000 in
theorem rdropQuant (A : Option Addr) (n c K : Nat) (ord : List Value → List Value → Int) (x : List Value) (L : List (List Value)) (w : World) (hn : n = L.length) (hsz : n + 1 ≤ 100000) (hL : Things kQuant L) (hx : Fits kQuant x)
 (hr : Rd w w.heap.size A L.flatten) (hO : TellsO kQuant w K #[] ord) :
 Calls Tryz.prog 161 #[.slice A n c, .agg x.toArray, .func (.func K) #[] #[]] w (NewQuant w (dropG ord L x)) := by
 obtain ⟨i0, z0, hi0, hz0', hz1, hz2, hz3⟩ := info_thing (P := Tryz.prog) (T := 71) (sz := 6) (by kernel_rfl)
 have hent := hO.1
 have HO := Lib.hid hO
 have HN := Lib.hid hn
 have HL := Lib.hid hL
 have HX := Lib.hid hx
 have HR := Lib.hid hr
 have hu := Tryz.underlying71
 have HSZ : Hid (∀ y, Fits kQuant y → (Tryz.prog.info? 71).map (·.size) = some y.length) := Lib.hid (fun y hy => by rw [show (Tryz.prog.info? 71).map (·.size) = some 6 from by kernel_rfl, hy.length]; rfl)
 have HIX : Hid ((Tryz.prog.info? 71).map (·.size) = some x.length) := Lib.hid (HSZ.out x hx)
 have HIXA : Hid ((Tryz.prog.info? 71).map (·.size) = some x.toArray.size) := Lib.hid (by rw [List.size_toArray]; exact HIX.out)
 have HXL : Hid (x.length = 6) := Lib.hid (by rw [hx.length]; rfl)
 have HX1 := Lib.hid (fits_one hx)
 have HOC : Hid (x.toArray.all (·.oneCell') = true) := Lib.hid (all_oneCell_toArray (fits_one hx))
 have HBY : Hid (∀ m, m ≤ 200000 → m * i0.bytes ≤ 140737488355328) := Lib.hid (fun m hm => Nat.le_trans (Nat.mul_le_mul hm hz3) (by decide))
 have HB0 : Hid (Below w.heap.size w (w.alloc (.cells x.toArray 71))) := Lib.hid ((Below.refl _ _).alloc (Nat.le_refl _) _)
 have HS0 : Hid ((w.alloc (.cells x.toArray 71)).heap.size = w.heap.size + 1) := Lib.hid (by simp)
 have HX0 : Hid (∀ W, Below (w.heap.size + 1) (w.alloc (.cells x.toArray 71)) W → W.heap[w.heap.size]? = some (.cells x.toArray 71 (0, 0))) := Lib.hid (fun W hW => (hW.block _ (by omega)).trans (heap_alloc_new _ _))
 have HXR : Hid (∀ W, Below (w.heap.size + 1) (w.alloc (.cells x.toArray 71)) W → W.rangeAt w.heap.size 0 x) := Lib.hid (fun W hW i v hv => by rw [cell_of_block (HX0.out W hW), List.getElem?_toArray, Nat.zero_add]; exact hv)
 have HBW : Hid (∀ W, Below (w.heap.size + 1) (w.alloc (.cells x.toArray 71)) W → Below w.heap.size w W ∧ w.heap.size + 1 ≤ W.heap.size) := Lib.hid (fun W hW => ⟨HB0.out.trans (hW.mono (by omega)), by have := hW.size; rw [HS0.out] at this; exact this⟩)
 have HLF : Hid (L.flatten.length = n * 6) := Lib.hid (by rw [flat_length hL.len, hn]; rfl)
 clear hn hL hx hr hO hz3
 go_enter Tryz.func161, Tryz.ntmps161
 go_wp2_with fail
 go_loopw [7, 8, 9] (fun v d i wr => ∃ (k m c' : Nat) (A' : Option Addr), k ≤ n ∧ i = .int .i64 (k : Int) ∧ v = .slice A' m c' ∧ d = .bool (dropK ord x L k).2 ∧ Hid (m = (dropK ord x L k).1.length) ∧ Hid (wr.ownsRow (w.heap.size + 1) 71 6 (.slice A' m c') m (dropK ord x L k).1.flatten) ∧ Hid (Below (w.heap.size + 1) (w.alloc (.cells x.toArray 71)) wr)) (fun _ _ i _ => n - (intOf i).toNat)
 case atStart => exact ⟨0, 0, 0, none, by omega, rfl, rfl, rfl, Lib.hid rfl, Lib.hid (World.ownsRow_nil _ _ _ _), Lib.hid (Below.refl _ _)⟩
 case round =>
  obtain ⟨k, m, c', A', hkn, rfl, rfl, rfl, hm, hown, hbel⟩ := hrel
  by_cases hlt : k < n
  · have hl : k < L.length := by rw [← HN.out]; exact hlt
    have hml := dropK_len ord x L k (by omega)
    rw [← hm.out] at hml
    obtain ⟨b, off, rfl, hb, hc⟩ := HR.out.thing HL.out (by decide) hl
    have fe := HL.out _ (List.getElem_mem hl)
    have r0 := hc k hl
    rw [show kQuant.length = 6 from rfl] at r0
    have hsk := dropK_succ ord x L k hl
    obtain ⟨e, he⟩ : ∃ e, L[k] = e := ⟨_, rfl⟩
    rw [he] at fe r0 hsk
    obtain ⟨r, hr⟩ : ∃ r, dropK ord x L k = r := ⟨_, rfl⟩
    rw [hr] at hm hown hsk ⊢
    obtain ⟨acc, dn⟩ := r
    simp only [] at hm hown ⊢
    have HSK := Lib.hid hsk
    have HF := Lib.hid fe
    have HST : Hid (∀ W, Below (w.heap.size + 1) (w.alloc (.cells x.toArray 71)) W → W.rangeAt b (off + k * 6) e ∧ W.rangeAt w.heap.size 0 x) := Lib.hid (fun W hW => ⟨rangeAt_below r0 hb (HBW.out W hW).1, HXR.out W hW⟩)
    have HIE : Hid ((Tryz.prog.info? 71).map (·.size) = some e.length) := Lib.hid (HSZ.out e fe)
    have HEL : Hid (e.length = 6) := Lib.hid (by rw [fe.length]; rfl)
    have HE1 := Lib.hid (fits_one fe)
    have h1 : (0 : Int) ≤ (k : Int) := by omega
    have h2 : (k : Int) < (n : Int) := by omega
    obtain ⟨z, hz⟩ : ∃ z, ord e x = z := ⟨_, rfl⟩
    have HOR : Hid (∀ W, Below (w.heap.size + 1) (w.alloc (.cells x.toArray 71)) W → Calls Tryz.prog K #[.agg e.toArray, .agg x.toArray] W fun r W' => r = .returned (.int .i64 z) ∧ Below W.heap.size W W') := Lib.hid (fun W hW => by
     have := HO.out.2 W (HBW.out W hW).1 e x HF.out HX.out
     rw [hz] at this
     exact this)
    have HZ := Lib.hid hz
    clear hc r0 he fe hr hsk hz hb
    have ST0 := HST.out _ hbel.out.drew
    have HG := Lib.hid (HBW.out _ hbel.out).2
    cases dn with
    | true =>
     have HNX : Hid (dropK ord x L (k + 1) = (acc ++ [e], true)) := Lib.hid HSK.out
     clear ST0
     go_wp2_with fail
     go_quiet (fail)
     have HBD := Lib.hid (below_drewN hbel.out nq)
     have HOD := Lib.hid (own_below hown.out (below_drewN (Below.refl wr.heap.size wr) nq))
     have HX2 := Lib.hid (HST.out _ HBD.out)
     have HG3 : Hid (w.heap.size + 1 ≤ ((wr.drewN nq).alloc (.cells e.toArray 71)).heap.size) := Lib.hid (Nat.le_trans (HBW.out _ HBD.out).2 (by simp))
     go_wp2_with (first
      | (refine wpList_load_mid rfl 71 (.tmp 31) rfl b (off + k * 6) rfl e _ HX2.out.1 hu rfl HIE.out ?_)
      | (refine wpList_buildOne rfl _ 71 _ rfl (wr.drewN nq).heap.size rfl _ rfl i0 z0 6 Tryz.underlying26 hi0 hz0' hz1 (by decide) (by decide) e (by rfl) HEL.out ?_)
      | (at_builtin; refine wpList_app rfl (.tmp 28) (.tmp 33) _ rfl (w.heap.size + 1) 71 i0 z0 6 i0.bytes Tryz.underlying26 hi0 hz0' hz1 rfl hz2 (by decide) _ _ _ _ rfl (HOD.out.alloc _) ((wr.drewN nq).heap.size + 1) (some ⟨(wr.drewN nq).heap.size, 0, none⟩) 1 1 e rfl HEL.out (rd_one (wr.drewN nq) e _) HE1.out (by simp only [maxLen]; omega) (HBY.out _ (by omega)) HG3.out ?_; intro A6 c6 w5 hown5 hb5; have HO5 := Lib.hid hown5; have HB5 := Lib.hid ((HBD.out.alloc (HBW.out _ HBD.out).2 (.cells e.toArray 71)).trans hb5); clear hown5 hb5)
      | fail)
     go_roundw
     case rel => exact ⟨k + 1, m + 1, c6, A6, by omega, by go_num, rfl, by rw [HNX.out], Lib.hid (by rw [HNX.out]; simp only [List.length_append, List.length_cons, List.length_nil]; have := hm.out; omega), Lib.hid (by rw [HNX.out]; simp only [List.flatten_append, List.flatten_cons, List.flatten_nil, List.append_nil]; exact HO5.out), HB5⟩
     case measure => simp [intOf]; omega
    | false =>
     go_wp2_with fail
     refine wp_region_noPanic ?_
     refine wp_region_held_drew (S := (fun w' => w'.rangeAt b (off + k * 6) e ∧ w'.rangeAt w.heap.size 0 x)) (by kernel_rfl) ST0 (fun dd0 => ?_)
     refine tkE 0 (.bool false) rfl ?_
     (try simp only [ax])
     refine tkE 1 (.bool true) rfl ?_
     (try simp only [ax])
     refine tkE 2 (.bool true) rfl ?_
     (try simp only [ax])
     refine tkE 3 (.func (.func K) #[] #[]) rfl ?_
     (try simp only [ax])
     refine tkE 4 (.slice (some ⟨b, off, none⟩) n c) rfl ?_
     (try simp only [ax])
     refine tkE 5 (.int .i64 (k : Int)) rfl ?_
     (try simp only [ax])
     refine tkE 6 (.pointer (some ⟨b, off + k * 6, none⟩)) rfl ?_
     (try simp only [ax])
     refine tkF 7 (.agg e.toArray) rfl (yieldsIf_load_mid (by kernel_rfl) 71 (.tmp 22) rfl b (off + k * 6) rfl e _ (fun w h => h.1) hu rfl HIE.out) ?_
     (try simp only [ax])
     refine tkF 8 (.agg x.toArray) rfl (yieldsIf_load_mid (by kernel_rfl) 71 (.tmp 4) rfl w.heap.size 0 rfl x _ (fun w h => h.2) hu rfl HIX.out) ?_
     (try simp only [ax])
     refine wpAnyH_ready (rs := [9]) (by kernel_rfl) (by simp) ?_
     refine AllReadyH.cons rfl (fun K' hK => ?_) AllReadyH.nil
     go_simp
     refine (HOR.out _ hbel.out.drew).mono ?_
     rintro r w1 ⟨rfl, hb1⟩
     have H1 := Lib.hid (hbel.out.drew.trans (hb1.mono (by have := HG.out; simpa using this)))
     have HO1 := Lib.hid (own_below hown.out (show Below wr.heap.size wr w1 from (Below.refl wr.heap.size wr).drew.trans hb1))
     clear hb1
     refine hK.out _ _ (HST.out _ H1.out) (fun _ => ?_)
     clear hK K'
     (try simp only [ax])
     refine tkE 10 (.bool (z == 0)) rfl ?_
     (try simp only [ax])
     refine tkE 11 (.bool (z == 0)) rfl ?_
     (try simp only [ax])
     refine wpAnyH_done (by kernel_rfl) ?_ _
     refine NoPanic.normal ?_
     clear ST0
     by_cases hz0 : (z == 0) = true
     · have HNX : Hid (dropK ord x L (k + 1) = (acc, true)) := Lib.hid (by rw [HSK.out]; unfold dropS; rw [HZ.out, hz0]; rfl)
       rw [hz0]
       go_wp2_with fail
       go_roundw
       case rel => exact ⟨k + 1, m, c', A', by omega, by go_num, rfl, by rw [HNX.out], Lib.hid (by rw [HNX.out]; exact hm.out), Lib.hid (by rw [HNX.out]; exact HO1.out), H1⟩
       case measure => simp [intOf]; omega
     · have hz1' : (z == 0) = false := by simpa using hz0
       have HNX : Hid (dropK ord x L (k + 1) = (acc ++ [e], false)) := Lib.hid (by rw [HSK.out]; unfold dropS; rw [HZ.out, hz1']; rfl)
       rw [hz1']
       clear hz0 hz1'
       have HX2 := Lib.hid (HST.out _ H1.out)
       have HG3 : Hid (w.heap.size + 1 ≤ (w1.alloc (.cells e.toArray 71)).heap.size) := Lib.hid (Nat.le_trans (HBW.out _ H1.out).2 (by simp))
       go_wp2_with (first
        | (refine wpList_load_mid rfl 71 (.tmp 31) rfl b (off + k * 6) rfl e _ HX2.out.1 hu rfl HIE.out ?_)
        | (refine wpList_buildOne rfl _ 71 _ rfl w1.heap.size rfl _ rfl i0 z0 6 Tryz.underlying26 hi0 hz0' hz1 (by decide) (by decide) e (by rfl) HEL.out ?_)
        | (at_builtin; refine wpList_app rfl (.tmp 28) (.tmp 33) _ rfl (w.heap.size + 1) 71 i0 z0 6 i0.bytes Tryz.underlying26 hi0 hz0' hz1 rfl hz2 (by decide) _ _ _ _ rfl (HO1.out.alloc _) (w1.heap.size + 1) (some ⟨w1.heap.size, 0, none⟩) 1 1 e rfl HEL.out (rd_one w1 e _) HE1.out (by simp only [maxLen]; omega) (HBY.out _ (by omega)) HG3.out ?_; intro A6 c6 w5 hown5 hb5; have HO5 := Lib.hid hown5; have HB5 := Lib.hid ((H1.out.alloc (HBW.out _ H1.out).2 (.cells e.toArray 71)).trans hb5); clear hown5 hb5)
        | fail)
       go_roundw
       case rel => exact ⟨k + 1, m + 1, c6, A6, by omega, by go_num, rfl, by rw [HNX.out], Lib.hid (by rw [HNX.out]; simp only [List.length_append, List.length_cons, List.length_nil]; have := hm.out; omega), Lib.hid (by rw [HNX.out]; simp only [List.flatten_append, List.flatten_cons, List.flatten_nil, List.append_nil]; exact HO5.out), HB5⟩
       case measure => simp [intOf]; omega
  · have hkn : k = L.length := by have := HN.out; omega
    rw [hkn, dropK_all] at hown hm
    have HEND := Lib.hid (HBW.out _ hbel.out)
    clear hkn
    go_wp2_with fail
    go_ret
    exact ⟨A', m, c', hm.out, rfl, own_down hown.out (by omega), HEND.out.1⟩
end Go.Proofs.YtgbilfkjfeheaaaGreat
