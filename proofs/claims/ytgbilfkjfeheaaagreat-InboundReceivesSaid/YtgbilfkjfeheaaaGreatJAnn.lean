/-
 CONTRACTS of the reference's Announce, Shut. (By wip/tools/gen_jann.py.)
-/
import Derived.Test.YtgbilfkjfeheaaaGreatJRef
import Derived.Test.YtgbilfkjfeheaaaGreatONoticeAdd
import Derived.Test.YtgbilfkjfeheaaaGreatGT
import Derived.Test.YtgbilfkjfeheaaaGreatHKept
import Derived.Test.YtgbilfkjfeheaaaGreatIName
namespace Go.Proofs.YtgbilfkjfeheaaaGreat
set_option linter.unusedVariables false
open Go.RowKit
open Pl (firstG findG putG It)

theorem rname_below (s : ByteArray) (hs : s.size ≤ maxLen) (W : World) : Calls Tryz.prog 45 #[.string s] W fun e w' => e = .returned (.int .i64 (Pl.nmE s : Nat)) ∧ Below W.heap.size W w' := (rname_any s W hs).mono fun e w' ⟨h1, h2⟩ => ⟨h1, by rw [h2]; exact Below.refl _ _⟩
theorem frNotice {h : Hs} {L : Nat → List (List Value)} {w : World} (hh : HT h L w) (s : ByteArray) : Calls Tryz.prog 26 #[.agg h.cells, .string s] w fun e w' => e = .returned (.tuple #[.agg (gotNotice (L 6) s).toArray, .bool (atNotice (L 6) s).isSome]) ∧ Below w.heap.size w w' :=
 rfindNotice h (L 6) s w (hh 6 (by decide)).1 (hh 6 (by decide)).2.1 (hh 6 (by decide)).2.2.1 (hh 6 (by decide)).2.2.2
/-- What stands in a notice's box. -/
theorem notice_box {w : World} {b : Nat} {cs : List Value} {t : TypeId} (h : w.heap[b]? = some (.cells cs.toArray t (0, 0))) (hf : Fits kNotice cs) : w.cell? ⟨b, 0, none⟩ = some (.string (codeOf cs)) ∧ w.cell? ⟨b, 1, none⟩ = some (.string (nsite cs)) ∧ w.rangeAt b 2 (nlines cs) ∧ w.cell? ⟨b, 50, none⟩ = some (.bool (nshut cs)) ∧ b < w.heap.size := by
 obtain ⟨h0, h1, h2, h50, hl⟩ := notice_parts hf
 refine ⟨by rw [cell_of_block h, List.getElem?_toArray]; exact h0, by rw [cell_of_block h, List.getElem?_toArray]; exact h1, fun i v hv => ?_, by rw [cell_of_block h, List.getElem?_toArray]; exact h50, lt_of_block h⟩
 unfold nlines at hv
 have hi : i < 48 := by
  have := (List.getElem?_eq_some_iff.1 hv).1
  rw [List.length_take] at this; omega
 rw [List.getElem?_take, if_pos hi, List.getElem?_drop] at hv
 rw [cell_of_block h, List.getElem?_toArray]; exact hv
theorem nlines_len {x : List Value} (h : Fits kNotice x) : (nlines x).length = 48 := (notice_parts h).2.2.1.length
theorem shutN_fits {x : List Value} (h : Fits kNotice x) : Fits kNotice (shutN x) := by
 obtain ⟨h0, h1, h2, h50, hl⟩ := notice_parts h
 have hs : x = (x.take 50) ++ [.bool (nshut x)] := by
  have h1 : x.drop 50 = [.bool (nshut x)] := by
   rw [List.drop_eq_getElem_cons (by omega), List.drop_of_length_le (by omega)]
   have := List.getElem?_eq_some_iff.1 h50
   rw [this.2]
  rw [← h1, List.take_append_drop]
 have hk : kNotice = ([.s] ++ ([.s] ++ kLine8)) ++ [.b] := rfl
 rw [hk] at h
 have := (Fits.split h).1
 rw [show (([.s] ++ ([.s] ++ kLine8)) : List CK).length = 50 from rfl] at this
 have hx : shutN x = x.take 50 ++ [.bool true] := by
  unfold shutN
  rw [hs, List.set_append_right _ _ (by rw [List.length_take]; omega), List.length_take, show min 50 x.length = 50 from by omega]
  rw [List.take_append_of_le_length (by rw [List.length_take]; omega), List.take_take]
  rfl
 rw [hx, hk]
 exact Fits.app this ⟨⟨_, rfl⟩, trivial⟩

set_option maxRecDepth 100000 in
set_option maxHeartbeats 6400000 in
theorem rshut_any (h : Hs) (L : Nat → List (List Value)) (s : ByteArray) (w : World) (hh : HT h L w) (hn6 : h.n 6 ≤ 1000) :
 Calls Tryz.prog 15 #[.agg h.cells, .string s] w (PutP 42 51 6 (shutE (L 6) s) (shutL (L 6) s) h w) := by
 obtain ⟨X, hX⟩ : ∃ X, gotNotice (L 6) s = X := ⟨_, rfl⟩
 have HXF : Hid (Fits kNotice X) := Lib.hid (hX ▸ gotNotice_fits (hh 6 (by decide)).2.2.1 s)
 obtain ⟨il, hil⟩ : ∃ q, (atNotice (L 6) s).isSome = q := ⟨_, rfl⟩
 obtain ⟨sh, hsh⟩ : ∃ q, nshut X = q := ⟨_, rfl⟩
 obtain ⟨er, her⟩ : ∃ r, shutE (L 6) s = r := ⟨_, rfl⟩
 have HA : Hid (er = if il = false then 12 else if sh = true then 13 else 0) := Lib.hid (by rw [← her]; unfold shutE; rw [hil, hX, hsh])
 have HSHV := Lib.hid hsh
 obtain ⟨lx, hlx⟩ : ∃ l, shutL (L 6) s = l := ⟨_, rfl⟩
 have hlx2 : putG ordNotice (L 6) (shutN X) = lx := by rw [← hlx]; unfold shutL; rw [hX]
 have CF : Hid (∀ W, Below w.heap.size w W → Calls Tryz.prog 26 #[.agg h.cells, .string s] W fun e w' => e = .returned (.tuple #[.agg X.toArray, .bool il]) ∧ Below W.heap.size W w') := Lib.hid (fun W hW => by have := frNotice (hh.below hW) s; rw [hX, hil] at this; exact this)
 have HPU : Hid (∀ W, Below w.heap.size w W → Calls Tryz.prog 47 #[.agg h.cells, .agg (shutN X).toArray] W fun e w' => Below W.heap.size W w' ∧ ∃ A n c, n = lx.length ∧ w'.ownsRow W.heap.size 42 51 (.slice A n c) n lx.flatten ∧ e = .returned (.agg (h.set 6 A n c).cells)) := Lib.hid (fun W hW => by rw [← hlx2]; exact rNotice_any h (shutN X) (L 6) W (shutN_fits HXF.out) (hh 6 (by decide)).1 hn6 (hh 6 (by decide)).2.2.1 ((hh.below hW) 6 (by decide)).2.2.2)
 rw [her, hlx]
 clear her hil hX hsh hlx hlx2
 have HSNO : Hid (∀ y, Fits kNotice y → (Tryz.prog.info? 42).map (·.size) = some y.toArray.size) := Lib.hid (fun y hy => by rw [show (Tryz.prog.info? 42).map (·.size) = some 51 from by kernel_rfl, List.size_toArray, hy.length]; rfl)
 have huNO := Tryz.underlying42
 have HOO : Hid (∀ y, Fits kNotice y → (#[.string ⟨#[]⟩, .string ⟨#[]⟩, .string ⟨#[]⟩, .int .i64 0, .int .i64 0, .int .i64 0, .int .i64 0, .int .i64 0, .string ⟨#[]⟩, .int .i64 0, .int .i64 0, .int .i64 0, .int .i64 0, .int .i64 0, .string ⟨#[]⟩, .int .i64 0, .int .i64 0, .int .i64 0, .int .i64 0, .int .i64 0, .string ⟨#[]⟩, .int .i64 0, .int .i64 0, .int .i64 0, .int .i64 0, .int .i64 0, .string ⟨#[]⟩, .int .i64 0, .int .i64 0, .int .i64 0, .int .i64 0, .int .i64 0, .string ⟨#[]⟩, .int .i64 0, .int .i64 0, .int .i64 0, .int .i64 0, .int .i64 0, .string ⟨#[]⟩, .int .i64 0, .int .i64 0, .int .i64 0, .int .i64 0, .int .i64 0, .string ⟨#[]⟩, .int .i64 0, .int .i64 0, .int .i64 0, .int .i64 0, .int .i64 0, .bool false] : Array Value).size = y.toArray.size) := Lib.hid (fun y hy => by rw [List.size_toArray, List.size_toArray, hy.length]; rfl)
 have HOC : Hid (∀ y, Fits kNotice y → y.toArray.all (·.oneCell') = true) := Lib.hid (fun y hy => all_oneCell_toArray (fits_one hy))
 obtain ⟨W0, hW0⟩ : ∃ W0, W0 = ((w.alloc (.cells h.cells 37)).alloc (.cells #[.slice none 0 0, .slice none 0 0, .slice none 0 0, .slice none 0 0, .slice none 0 0, .slice none 0 0, .slice none 0 0, .slice none 0 0, .slice none 0 0, .slice none 0 0, .slice none 0 0, .slice none 0 0, .slice none 0 0, .slice none 0 0, .int .i64 0] 37)) := ⟨_, rfl⟩
 have hb0 : Below w.heap.size w W0 := by rw [hW0]; exact ((Below.refl _ _).alloc (Nat.le_refl _) _).alloc (by simp <;> omega) _
 have hs0 : W0.heap.size = w.heap.size + 2 := by rw [hW0]; simp
 have HH : Hid (∀ W, Below W0.heap.size W0 W → W.heap[w.heap.size]? = some (.cells h.cells 37 (0, 0))) := Lib.hid (fun W hW => (hW.block _ (by omega)).trans (by
  rw [hW0]
  have hq := heap_alloc_new w (.cells h.cells 37)
  exact (Below.heap_alloc _ _ _ (by simp <;> omega)).trans ((by simpa using hq))))
 have HZ : Hid (∀ W, Below W0.heap.size W0 W → W.heap[w.heap.size + 1]? = some (.cells Hs.zero 37 (0, 0))) := Lib.hid (fun W hW => (hW.block _ (by omega)).trans (by
  rw [hW0]
  have hq := heap_alloc_new (w.alloc (.cells h.cells 37)) (.cells #[.slice none 0 0, .slice none 0 0, .slice none 0 0, .slice none 0 0, .slice none 0 0, .slice none 0 0, .slice none 0 0, .slice none 0 0, .slice none 0 0, .slice none 0 0, .slice none 0 0, .slice none 0 0, .slice none 0 0, .slice none 0 0, .int .i64 0] 37)
  exact (by simpa [Hs.zero] using hq)))
 have HBW : Hid (∀ W, Below W0.heap.size W0 W → Below w.heap.size w W ∧ w.heap.size + 2 ≤ W.heap.size) := Lib.hid (fun W hW => ⟨hb0.trans (hW.mono (by omega)), by have := hW.size; omega⟩)
 have huh := Tryz.underlying37
 have HSH : Hid (∀ a : Hs, (Tryz.prog.info? 37).map (·.size) = some a.cells.size) := Lib.hid (fun a => by kernel_rfl)
 have HSQ : Hid ((Tryz.prog.info? 37).map (·.size) = some Hs.zero.size) := Lib.hid (by kernel_rfl)
 have H1C : Hid (∀ a : Hs, a.cells.all (·.oneCell') = true) := Lib.hid (fun a => by simp [Hs.cells, Value.oneCell'])
 have H1Q : Hid (Hs.zero.all (·.oneCell') = true) := Lib.hid (by simp [Hs.zero, Value.oneCell'])
 have H0 := Lib.hid (Below.refl W0.heap.size W0)
 clear hb0 hs0 hh hn6
 subst hW0
 go_enter Tryz.func15, Tryz.ntmps15
 go_wp2_with (first
  | (refine wpList_load_row rfl 37 (.tmp 2) rfl w.heap.size rfl _ _ _ _ (HH.out _ H0.out) huh rfl (HSH.out _) ?_)
  | fail)
 refine (CF.out _ (HBW.out _ H0.out).1).mono ?_
 rintro e w1 ⟨rfl, hb9⟩
 have HPH1 := Lib.hid (H0.out.trans (hb9.mono H0.out.size))
 clear hb9
 have HBXH1 : Hid ((w1.alloc (.cells #[.string ⟨#[]⟩, .string ⟨#[]⟩, .string ⟨#[]⟩, .int .i64 0, .int .i64 0, .int .i64 0, .int .i64 0, .int .i64 0, .string ⟨#[]⟩, .int .i64 0, .int .i64 0, .int .i64 0, .int .i64 0, .int .i64 0, .string ⟨#[]⟩, .int .i64 0, .int .i64 0, .int .i64 0, .int .i64 0, .int .i64 0, .string ⟨#[]⟩, .int .i64 0, .int .i64 0, .int .i64 0, .int .i64 0, .int .i64 0, .string ⟨#[]⟩, .int .i64 0, .int .i64 0, .int .i64 0, .int .i64 0, .int .i64 0, .string ⟨#[]⟩, .int .i64 0, .int .i64 0, .int .i64 0, .int .i64 0, .int .i64 0, .string ⟨#[]⟩, .int .i64 0, .int .i64 0, .int .i64 0, .int .i64 0, .int .i64 0, .string ⟨#[]⟩, .int .i64 0, .int .i64 0, .int .i64 0, .int .i64 0, .int .i64 0, .bool false] 42)).heap[w1.heap.size]? = some (.cells #[.string ⟨#[]⟩, .string ⟨#[]⟩, .string ⟨#[]⟩, .int .i64 0, .int .i64 0, .int .i64 0, .int .i64 0, .int .i64 0, .string ⟨#[]⟩, .int .i64 0, .int .i64 0, .int .i64 0, .int .i64 0, .int .i64 0, .string ⟨#[]⟩, .int .i64 0, .int .i64 0, .int .i64 0, .int .i64 0, .int .i64 0, .string ⟨#[]⟩, .int .i64 0, .int .i64 0, .int .i64 0, .int .i64 0, .int .i64 0, .string ⟨#[]⟩, .int .i64 0, .int .i64 0, .int .i64 0, .int .i64 0, .int .i64 0, .string ⟨#[]⟩, .int .i64 0, .int .i64 0, .int .i64 0, .int .i64 0, .int .i64 0, .string ⟨#[]⟩, .int .i64 0, .int .i64 0, .int .i64 0, .int .i64 0, .int .i64 0, .string ⟨#[]⟩, .int .i64 0, .int .i64 0, .int .i64 0, .int .i64 0, .int .i64 0, .bool false] 42 (0, 0))) := Lib.hid (heap_alloc_new _ _)
 obtain ⟨w1b, hw1b⟩ : ∃ W, W = (w1.alloc (.cells #[.string ⟨#[]⟩, .string ⟨#[]⟩, .string ⟨#[]⟩, .int .i64 0, .int .i64 0, .int .i64 0, .int .i64 0, .int .i64 0, .string ⟨#[]⟩, .int .i64 0, .int .i64 0, .int .i64 0, .int .i64 0, .int .i64 0, .string ⟨#[]⟩, .int .i64 0, .int .i64 0, .int .i64 0, .int .i64 0, .int .i64 0, .string ⟨#[]⟩, .int .i64 0, .int .i64 0, .int .i64 0, .int .i64 0, .int .i64 0, .string ⟨#[]⟩, .int .i64 0, .int .i64 0, .int .i64 0, .int .i64 0, .int .i64 0, .string ⟨#[]⟩, .int .i64 0, .int .i64 0, .int .i64 0, .int .i64 0, .int .i64 0, .string ⟨#[]⟩, .int .i64 0, .int .i64 0, .int .i64 0, .int .i64 0, .int .i64 0, .string ⟨#[]⟩, .int .i64 0, .int .i64 0, .int .i64 0, .int .i64 0, .int .i64 0, .bool false] 42)).setRow w1.heap.size X.toArray := ⟨_, rfl⟩
 have H1 : Hid (Below ((w.alloc (.cells h.cells 37)).alloc (.cells #[.slice none 0 0, .slice none 0 0, .slice none 0 0, .slice none 0 0, .slice none 0 0, .slice none 0 0, .slice none 0 0, .slice none 0 0, .slice none 0 0, .slice none 0 0, .slice none 0 0, .slice none 0 0, .slice none 0 0, .slice none 0 0, .int .i64 0] 37)).heap.size ((w.alloc (.cells h.cells 37)).alloc (.cells #[.slice none 0 0, .slice none 0 0, .slice none 0 0, .slice none 0 0, .slice none 0 0, .slice none 0 0, .slice none 0 0, .slice none 0 0, .slice none 0 0, .slice none 0 0, .slice none 0 0, .slice none 0 0, .slice none 0 0, .slice none 0 0, .int .i64 0] 37)) w1b) := Lib.hid (by rw [hw1b]; exact setRow_below (HPH1.out.alloc HPH1.out.size _) HPH1.out.size _)
 have HRH1 : Hid (w1b.heap[w1.heap.size]? = some (.cells X.toArray 42 (0, 0))) := Lib.hid (by rw [hw1b]; exact setRow_heap _ _ _ _ _ _ HBXH1.out)
 have HWH1 := Lib.hid hw1b
 clear hw1b
 obtain ⟨_, _, _, c50, clt⟩ := notice_box HRH1.out HXF.out
 rw [HSHV.out] at c50
 cases il with
 | false =>
  have HE : Hid (er = 12) := Lib.hid (by rw [HA.out]; rfl)
  go_wp2_with (first
   | (refine wpList_store_row rfl 42 (.tmp 6) (.tmp 12) rfl w1.heap.size X.toArray rfl rfl _ _ HBXH1.out (HSNO.out _ HXF.out) (HOO.out _ HXF.out) (HOC.out _ HXF.out) ?_; rw [← HWH1.out])
   | (refine wpList_store_row rfl 37 (.tmp 4) (.tmp 16) rfl (w.heap.size + 1) Hs.zero rfl rfl _ _ (HZ.out _ H1.out) HSQ.out rfl H1Q.out ?_)
   | fail)
  exact bodyPost_ret (results_row_tmp rfl _ _ (w.heap.size + 1) _ _ _ _ rfl (setRow_heap _ _ _ _ _ _ (HZ.out _ H1.out)) huh rfl HSQ.out) rfl ⟨setRow_below (HBW.out _ H1.out).1 (by omega) _, .inl ⟨by rw [HE.out]; decide, by rw [HE.out]; rfl⟩⟩
 | true =>
  cases sh with
  | true =>
   have HE : Hid (er = 13) := Lib.hid (by rw [HA.out]; rfl)
   go_wp2_with (first
    | (refine wpList_store_row rfl 42 (.tmp 6) (.tmp 12) rfl w1.heap.size X.toArray rfl rfl _ _ HBXH1.out (HSNO.out _ HXF.out) (HOO.out _ HXF.out) (HOC.out _ HXF.out) ?_; rw [← HWH1.out])
    | (refine wpList_store_row rfl 37 (.tmp 4) (.tmp 19) rfl (w.heap.size + 1) Hs.zero rfl rfl _ _ (HZ.out _ H1.out) HSQ.out rfl H1Q.out ?_)
    | fail)
   exact bodyPost_ret (results_row_tmp rfl _ _ (w.heap.size + 1) _ _ _ _ rfl (setRow_heap _ _ _ _ _ _ (HZ.out _ H1.out)) huh rfl HSQ.out) rfl ⟨setRow_below (HBW.out _ H1.out).1 (by omega) _, .inl ⟨by rw [HE.out]; decide, by rw [HE.out]; rfl⟩⟩
  | false =>
   have HE : Hid (er = 0) := Lib.hid (by rw [HA.out]; rfl)
   have f50 : w1b.frozen? ⟨w1.heap.size, 50, none⟩ = false := frozen_of_block HRH1.out
   obtain ⟨w2, hw2⟩ : ∃ W, W = w1b.setCell ⟨w1.heap.size, 50, none⟩ (.bool true) := ⟨_, rfl⟩
   have HN2 : Hid (w2.heap[w1.heap.size]? = some (.cells (shutN X).toArray 42 (0, 0))) := Lib.hid (by rw [hw2, block_setCell HRH1.out]; unfold shutN; simp)
   have H2 : Hid (Below _ _ w2) := Lib.hid (by rw [hw2]; exact H1.out.setCell HPH1.out.size _)
   have HW2 := Lib.hid hw2
   clear hw2
   go_upto_region 7 with (first
    | (refine wpList_store_row rfl 42 (.tmp 6) (.tmp 12) rfl w1.heap.size X.toArray rfl rfl _ _ HBXH1.out (HSNO.out _ HXF.out) (HOO.out _ HXF.out) (HOC.out _ HXF.out) ?_; rw [← HWH1.out])
    | fail)
   rw [← HW2.out]
   go_wp2_with (first
    | (refine wpList_load_row rfl 37 (.tmp 2) rfl w.heap.size rfl _ _ _ _ (HH.out _ H2.out) huh rfl (HSH.out _) ?_)
    | (refine wpList_load_row rfl 42 (.tmp 6) rfl w1.heap.size rfl _ _ _ _ HN2.out huNO rfl (HSNO.out _ (shutN_fits HXF.out)) ?_)
    | fail)
   refine (HPU.out _ (HBW.out _ H2.out).1).mono ?_
   rintro e w5 ⟨hb9, A, n, cc, hl, hown, rfl⟩
   have H9 := Lib.hid (H2.out.trans (hb9.mono H2.out.size))
   have HO9 := Lib.hid hown
   have HLE := Lib.hid hl
   have HSZ9 := Lib.hid (HBW.out _ H2.out).2
   clear hb9 hown hl
   go_wp2_with (first
    | (refine wpList_store_row rfl 37 (.tmp 4) (.tmp 23) rfl (w.heap.size + 1) (h.set 6 A n cc).cells rfl rfl _ _ (HZ.out _ H9.out) (HSH.out _) rfl (H1C.out _) ?_)
    | fail)
   exact bodyPost_ret (results_row_tmp rfl _ _ (w.heap.size + 1) _ _ _ _ rfl (setRow_heap _ _ _ _ _ _ (HZ.out _ H9.out)) huh rfl (HSH.out _)) rfl ⟨setRow_below (HBW.out _ H9.out).1 (by omega) _, .inr ⟨HE.out, A, n, cc, HLE.out, own_rowed HO9.out (by have := HSZ9.out; omega) (by have := HSZ9.out; omega), rfl⟩⟩

set_option maxRecDepth 100000 in
set_option maxHeartbeats 6400000 in
theorem rann_any (h : Hs) (L : Nat → List (List Value)) (cs : List Value) (w : World) (hh : HT h L w) (hf : Fits kNotice cs) (hm : (codeOf cs).size ≤ maxLen) (hn6 : h.n 6 ≤ 1000) :
 Calls Tryz.prog 13 #[.agg h.cells, .agg cs.toArray] w (PutP 42 51 6 (annE (L 0) (L 2) (L 6) cs) (putG ordNotice (L 6) cs) h w) := by
 have HF := Lib.hid hf
 have HCF := Lib.hid hf
 obtain ⟨cd, hcd⟩ : ∃ z, codeOf cs = z := ⟨_, rfl⟩
 obtain ⟨si, hsi⟩ : ∃ z, nsite cs = z := ⟨_, rfl⟩
 obtain ⟨sh, hsh⟩ : ∃ z, nshut cs = z := ⟨_, rfl⟩
 obtain ⟨ll, hll⟩ : ∃ z, nlines cs = z := ⟨_, rfl⟩
 have HLF : Hid (Fits kLine8 ll) := Lib.hid (by rw [← hll]; exact (notice_parts hf).2.2.1)
 obtain ⟨X, hX⟩ : ∃ X, gotNotice (L 6) cd = X := ⟨_, rfl⟩
 have HXF : Hid (Fits kNotice X) := Lib.hid (hX ▸ gotNotice_fits (hh 6 (by decide)).2.2.1 cd)
 obtain ⟨il, hil⟩ : ∃ q, (atNotice (L 6) cd).isSome = q := ⟨_, rfl⟩
 obtain ⟨nm, hnm⟩ : ∃ q, Pl.nmE cd = q := ⟨_, rfl⟩
 obtain ⟨zb, hzb⟩ : ∃ q, zonedB (L 2) si = q := ⟨_, rfl⟩
 obtain ⟨le, hle⟩ : ∃ q, linesE (L 0) ll = q := ⟨_, rfl⟩
 obtain ⟨er, her⟩ : ∃ r, annE (L 0) (L 2) (L 6) cs = r := ⟨_, rfl⟩
 obtain ⟨m, hmm⟩ : ∃ m, h.n 6 = m := ⟨_, rfl⟩
 have HA : Hid (er = if nm ≠ 0 then nm else if zb = false then 12 else if le ≠ 0 then le else if sh = true then 13 else if il = true then 11 else if 32 ≤ m then 14 else 0) := Lib.hid (by rw [← her]; unfold annE; rw [hcd, hsi, hll, hsh, hnm, hzb, hle, hil, ← (hh 6 (by decide)).1, hmm])
 obtain ⟨lx, hlx⟩ : ∃ l, putG ordNotice (L 6) cs = l := ⟨_, rfl⟩
 have CN : Hid (∀ W, Calls Tryz.prog 45 #[.string cd] W fun e w' => e = .returned (.int .i64 (nm : Nat)) ∧ Below W.heap.size W w') := Lib.hid (fun W => by have := rname_below cd (by rw [← hcd]; exact hm) W; rwa [hnm] at this)
 have CZ : Hid (∀ W, Below w.heap.size w W → Calls Tryz.prog 46 #[.agg h.cells, .string si] W fun e w' => e = .returned (.bool zb) ∧ Below W.heap.size W w') := Lib.hid (fun W hW => by have := rzoned_any h L si W (hh.below hW); rwa [hzb] at this)
 have CL : Hid (∀ W, Below w.heap.size w W → Calls Tryz.prog 18 #[.agg h.cells, .agg ll.toArray] W fun e w' => e = .returned (.int .i64 (le : Nat)) ∧ Below W.heap.size W w') := Lib.hid (fun W hW => by have := rlines_any h L ll W (hh.below hW) HLF.out; rwa [hle] at this)
 have CF : Hid (∀ W, Below w.heap.size w W → Calls Tryz.prog 26 #[.agg h.cells, .string cd] W fun e w' => e = .returned (.tuple #[.agg X.toArray, .bool il]) ∧ Below W.heap.size W w') := Lib.hid (fun W hW => by have := frNotice (hh.below hW) cd; rw [hX, hil] at this; exact this)
 have HPU : Hid (∀ W, Below w.heap.size w W → Calls Tryz.prog 47 #[.agg h.cells, .agg cs.toArray] W fun e w' => Below W.heap.size W w' ∧ ∃ A n c, n = lx.length ∧ w'.ownsRow W.heap.size 42 51 (.slice A n c) n lx.flatten ∧ e = .returned (.agg (h.set 6 A n c).cells)) := Lib.hid (fun W hW => by rw [← hlx]; exact rNotice_any h cs (L 6) W HF.out (hh 6 (by decide)).1 hn6 (hh 6 (by decide)).2.2.1 ((hh.below hW) 6 (by decide)).2.2.2)
 have hn9 := (hh 6 (by decide)).2.1
 rw [hmm] at hn9
 have HMM := Lib.hid hmm
 have HCD := Lib.hid hcd
 have HSI := Lib.hid hsi
 have HSV := Lib.hid hsh
 have HLV := Lib.hid hll
 have HLL : Hid ((Tryz.prog.info? 40).map (·.size) = some ll.length) := Lib.hid (by rw [HLF.out.length]; kernel_rfl)
 have huL8 := Tryz.underlying40
 rw [her, hlx]
 clear her hcd hsi hsh hll hX hil hnm hzb hle hmm hlx
 have HSNO : Hid (∀ y, Fits kNotice y → (Tryz.prog.info? 42).map (·.size) = some y.toArray.size) := Lib.hid (fun y hy => by rw [show (Tryz.prog.info? 42).map (·.size) = some 51 from by kernel_rfl, List.size_toArray, hy.length]; rfl)
 have huNO := Tryz.underlying42
 have HOO : Hid (∀ y, Fits kNotice y → (#[.string ⟨#[]⟩, .string ⟨#[]⟩, .string ⟨#[]⟩, .int .i64 0, .int .i64 0, .int .i64 0, .int .i64 0, .int .i64 0, .string ⟨#[]⟩, .int .i64 0, .int .i64 0, .int .i64 0, .int .i64 0, .int .i64 0, .string ⟨#[]⟩, .int .i64 0, .int .i64 0, .int .i64 0, .int .i64 0, .int .i64 0, .string ⟨#[]⟩, .int .i64 0, .int .i64 0, .int .i64 0, .int .i64 0, .int .i64 0, .string ⟨#[]⟩, .int .i64 0, .int .i64 0, .int .i64 0, .int .i64 0, .int .i64 0, .string ⟨#[]⟩, .int .i64 0, .int .i64 0, .int .i64 0, .int .i64 0, .int .i64 0, .string ⟨#[]⟩, .int .i64 0, .int .i64 0, .int .i64 0, .int .i64 0, .int .i64 0, .string ⟨#[]⟩, .int .i64 0, .int .i64 0, .int .i64 0, .int .i64 0, .int .i64 0, .bool false] : Array Value).size = y.toArray.size) := Lib.hid (fun y hy => by rw [List.size_toArray, List.size_toArray, hy.length]; rfl)
 have HOC : Hid (∀ y, Fits kNotice y → y.toArray.all (·.oneCell') = true) := Lib.hid (fun y hy => all_oneCell_toArray (fits_one hy))
 obtain ⟨W0, hW0⟩ : ∃ W0, W0 = (((w.alloc (.cells h.cells 37)).alloc (.cells cs.toArray 42)).alloc (.cells #[.slice none 0 0, .slice none 0 0, .slice none 0 0, .slice none 0 0, .slice none 0 0, .slice none 0 0, .slice none 0 0, .slice none 0 0, .slice none 0 0, .slice none 0 0, .slice none 0 0, .slice none 0 0, .slice none 0 0, .slice none 0 0, .int .i64 0] 37)) := ⟨_, rfl⟩
 have hb0 : Below w.heap.size w W0 := by rw [hW0]; exact (((Below.refl _ _).alloc (Nat.le_refl _) _).alloc (by simp <;> omega) _).alloc (by simp <;> omega) _
 have hs0 : W0.heap.size = w.heap.size + 3 := by rw [hW0]; simp
 have HH : Hid (∀ W, Below W0.heap.size W0 W → W.heap[w.heap.size]? = some (.cells h.cells 37 (0, 0))) := Lib.hid (fun W hW => (hW.block _ (by omega)).trans (by
  rw [hW0]
  have hq := heap_alloc_new w (.cells h.cells 37)
  exact (Below.heap_alloc _ _ _ (by simp <;> omega)).trans ((Below.heap_alloc _ _ _ (by simp <;> omega)).trans ((by simpa using hq)))))
 have HX : Hid (∀ W, Below W0.heap.size W0 W → W.heap[w.heap.size + 1]? = some (.cells cs.toArray 42 (0, 0))) := Lib.hid (fun W hW => (hW.block _ (by omega)).trans (by
  rw [hW0]
  have hq := heap_alloc_new (w.alloc (.cells h.cells 37)) (.cells cs.toArray 42)
  exact (Below.heap_alloc _ _ _ (by simp <;> omega)).trans ((by simpa using hq))))
 have HZ : Hid (∀ W, Below W0.heap.size W0 W → W.heap[w.heap.size + 2]? = some (.cells Hs.zero 37 (0, 0))) := Lib.hid (fun W hW => (hW.block _ (by omega)).trans (by
  rw [hW0]
  have hq := heap_alloc_new ((w.alloc (.cells h.cells 37)).alloc (.cells cs.toArray 42)) (.cells #[.slice none 0 0, .slice none 0 0, .slice none 0 0, .slice none 0 0, .slice none 0 0, .slice none 0 0, .slice none 0 0, .slice none 0 0, .slice none 0 0, .slice none 0 0, .slice none 0 0, .slice none 0 0, .slice none 0 0, .slice none 0 0, .int .i64 0] 37)
  exact (by simpa [Hs.zero] using hq)))
 have HBW : Hid (∀ W, Below W0.heap.size W0 W → Below w.heap.size w W ∧ w.heap.size + 3 ≤ W.heap.size) := Lib.hid (fun W hW => ⟨hb0.trans (hW.mono (by omega)), by have := hW.size; omega⟩)
 have huh := Tryz.underlying37
 have HSH : Hid (∀ a : Hs, (Tryz.prog.info? 37).map (·.size) = some a.cells.size) := Lib.hid (fun a => by kernel_rfl)
 have HSQ : Hid ((Tryz.prog.info? 37).map (·.size) = some Hs.zero.size) := Lib.hid (by kernel_rfl)
 have H1C : Hid (∀ a : Hs, a.cells.all (·.oneCell') = true) := Lib.hid (fun a => by simp [Hs.cells, Value.oneCell'])
 have H1Q : Hid (Hs.zero.all (·.oneCell') = true) := Lib.hid (by simp [Hs.zero, Value.oneCell'])
 have huHX := Tryz.underlying42
 have HL6 : Hid (∀ W, Below W0.heap.size W0 W → W.cell? ⟨w.heap.size, 6, none⟩ = some (.slice (h.A 6) m (h.c 6)) ∧ w.heap.size < W.heap.size) := Lib.hid (fun W hW => ⟨by rw [cell_of_block (HH.out W hW), ← HMM.out]; rfl, by have := hW.size; omega⟩)
 have HCX : Hid (∀ W, Below W0.heap.size W0 W → W.cell? ⟨w.heap.size + 1, 0, none⟩ = some (.string cd) ∧ W.cell? ⟨w.heap.size + 1, 1, none⟩ = some (.string si) ∧ W.rangeAt (w.heap.size + 1) 2 ll ∧ W.cell? ⟨w.heap.size + 1, 50, none⟩ = some (.bool sh) ∧ w.heap.size + 1 < W.heap.size) := Lib.hid (fun W hW => by have := notice_box (HX.out W hW) HF.out; rwa [HCD.out, HSI.out, HLV.out, HSV.out] at this)
 have HSHL : Hid (∀ a : Hs, (Tryz.prog.info? 37).map (·.size) = some a.cells.toList.length) := Lib.hid (fun a => by kernel_rfl)
 have H0 := Lib.hid (Below.refl W0.heap.size W0)
 clear hb0 hs0 hh hn6 hf hm
 subst hW0
 go_enter Tryz.func13, Tryz.ntmps13
 obtain ⟨x0, x1, x2, x50, xlt⟩ := HCX.out _ H0.out
 go_wp2_with fail
 refine (CN.out _).mono ?_
 rintro e w1 ⟨rfl, hb1⟩
 have H1 := Lib.hid (H0.out.trans (hb1.mono H0.out.size))
 clear hb1
 clear x0 x1 x2 x50 xlt
 by_cases hk : nm = 0
 · subst hk
   obtain ⟨x0, x1, x2, x50, xlt⟩ := HCX.out _ H1.out
   go_wp2_with (first
    | (refine BigFrame.wpList_want (by kernel_rfl) (fun K hK => Go.wp_load_mid 37 (.tmp 2) rfl w.heap.size 0 rfl h.cells.toList _ (range_row0 (HH.out _ H1.out)) huh rfl (HSHL.out _) (hK _ _ ?_)); clear hK K)
    | fail)
   refine (CZ.out _ (HBW.out _ H1.out).1).mono ?_
   rintro e w2 ⟨rfl, hb2⟩
   have H2 := Lib.hid (H1.out.trans (hb2.mono H1.out.size))
   clear hb2
   clear x0 x1 x2 x50 xlt
   cases zb with
   | false =>
    obtain ⟨x0, x1, x2, x50, xlt⟩ := HCX.out _ H2.out
    go_wp2_with (first
     | (refine wpList_load_row rfl 37 (.tmp 2) rfl w.heap.size rfl _ _ _ _ (HH.out _ H2.out) huh rfl (HSH.out _) ?_)
     | fail)
    refine (CF.out _ (HBW.out _ H2.out).1).mono ?_
    rintro e v1 ⟨rfl, hb9⟩
    have HPHQ1 := Lib.hid (H2.out.trans (hb9.mono H2.out.size))
    clear hb9
    have HBXHQ1 : Hid ((v1.alloc (.cells #[.string ⟨#[]⟩, .string ⟨#[]⟩, .string ⟨#[]⟩, .int .i64 0, .int .i64 0, .int .i64 0, .int .i64 0, .int .i64 0, .string ⟨#[]⟩, .int .i64 0, .int .i64 0, .int .i64 0, .int .i64 0, .int .i64 0, .string ⟨#[]⟩, .int .i64 0, .int .i64 0, .int .i64 0, .int .i64 0, .int .i64 0, .string ⟨#[]⟩, .int .i64 0, .int .i64 0, .int .i64 0, .int .i64 0, .int .i64 0, .string ⟨#[]⟩, .int .i64 0, .int .i64 0, .int .i64 0, .int .i64 0, .int .i64 0, .string ⟨#[]⟩, .int .i64 0, .int .i64 0, .int .i64 0, .int .i64 0, .int .i64 0, .string ⟨#[]⟩, .int .i64 0, .int .i64 0, .int .i64 0, .int .i64 0, .int .i64 0, .string ⟨#[]⟩, .int .i64 0, .int .i64 0, .int .i64 0, .int .i64 0, .int .i64 0, .bool false] 42)).heap[v1.heap.size]? = some (.cells #[.string ⟨#[]⟩, .string ⟨#[]⟩, .string ⟨#[]⟩, .int .i64 0, .int .i64 0, .int .i64 0, .int .i64 0, .int .i64 0, .string ⟨#[]⟩, .int .i64 0, .int .i64 0, .int .i64 0, .int .i64 0, .int .i64 0, .string ⟨#[]⟩, .int .i64 0, .int .i64 0, .int .i64 0, .int .i64 0, .int .i64 0, .string ⟨#[]⟩, .int .i64 0, .int .i64 0, .int .i64 0, .int .i64 0, .int .i64 0, .string ⟨#[]⟩, .int .i64 0, .int .i64 0, .int .i64 0, .int .i64 0, .int .i64 0, .string ⟨#[]⟩, .int .i64 0, .int .i64 0, .int .i64 0, .int .i64 0, .int .i64 0, .string ⟨#[]⟩, .int .i64 0, .int .i64 0, .int .i64 0, .int .i64 0, .int .i64 0, .string ⟨#[]⟩, .int .i64 0, .int .i64 0, .int .i64 0, .int .i64 0, .int .i64 0, .bool false] 42 (0, 0))) := Lib.hid (heap_alloc_new _ _)
    obtain ⟨v1b, hv1b⟩ : ∃ W, W = (v1.alloc (.cells #[.string ⟨#[]⟩, .string ⟨#[]⟩, .string ⟨#[]⟩, .int .i64 0, .int .i64 0, .int .i64 0, .int .i64 0, .int .i64 0, .string ⟨#[]⟩, .int .i64 0, .int .i64 0, .int .i64 0, .int .i64 0, .int .i64 0, .string ⟨#[]⟩, .int .i64 0, .int .i64 0, .int .i64 0, .int .i64 0, .int .i64 0, .string ⟨#[]⟩, .int .i64 0, .int .i64 0, .int .i64 0, .int .i64 0, .int .i64 0, .string ⟨#[]⟩, .int .i64 0, .int .i64 0, .int .i64 0, .int .i64 0, .int .i64 0, .string ⟨#[]⟩, .int .i64 0, .int .i64 0, .int .i64 0, .int .i64 0, .int .i64 0, .string ⟨#[]⟩, .int .i64 0, .int .i64 0, .int .i64 0, .int .i64 0, .int .i64 0, .string ⟨#[]⟩, .int .i64 0, .int .i64 0, .int .i64 0, .int .i64 0, .int .i64 0, .bool false] 42)).setRow v1.heap.size X.toArray := ⟨_, rfl⟩
    have HQ1 : Hid (Below (((w.alloc (.cells h.cells 37)).alloc (.cells cs.toArray 42)).alloc (.cells #[.slice none 0 0, .slice none 0 0, .slice none 0 0, .slice none 0 0, .slice none 0 0, .slice none 0 0, .slice none 0 0, .slice none 0 0, .slice none 0 0, .slice none 0 0, .slice none 0 0, .slice none 0 0, .slice none 0 0, .slice none 0 0, .int .i64 0] 37)).heap.size (((w.alloc (.cells h.cells 37)).alloc (.cells cs.toArray 42)).alloc (.cells #[.slice none 0 0, .slice none 0 0, .slice none 0 0, .slice none 0 0, .slice none 0 0, .slice none 0 0, .slice none 0 0, .slice none 0 0, .slice none 0 0, .slice none 0 0, .slice none 0 0, .slice none 0 0, .slice none 0 0, .slice none 0 0, .int .i64 0] 37)) v1b) := Lib.hid (by rw [hv1b]; exact setRow_below (HPHQ1.out.alloc HPHQ1.out.size _) HPHQ1.out.size _)
    have HRHQ1 : Hid (v1b.heap[v1.heap.size]? = some (.cells X.toArray 42 (0, 0))) := Lib.hid (by rw [hv1b]; exact setRow_heap _ _ _ _ _ _ HBXHQ1.out)
    have HWHQ1 := Lib.hid hv1b
    clear hv1b
    clear x0 x1 x2 x50 xlt
    have HE : Hid (er = 12) := Lib.hid (by rw [HA.out]; rfl)
    go_wp2_with (first
     | (refine wpList_store_row rfl 42 (.tmp 7) (.tmp 38) rfl v1.heap.size X.toArray rfl rfl _ _ HBXHQ1.out (HSNO.out _ HXF.out) (HOO.out _ HXF.out) (HOC.out _ HXF.out) ?_; rw [← HWHQ1.out])
     | (refine wpList_store_row rfl 37 (.tmp 4) (.tmp 55) rfl (w.heap.size + 2) Hs.zero rfl rfl _ _ (HZ.out _ HQ1.out) HSQ.out rfl H1Q.out ?_)
     | fail)
    exact bodyPost_ret (results_row_tmp rfl _ _ (w.heap.size + 2) _ _ _ _ rfl (setRow_heap _ _ _ _ _ _ (HZ.out _ HQ1.out)) huh rfl HSQ.out) rfl ⟨setRow_below (HBW.out _ HQ1.out).1 (by omega) _, .inl ⟨by rw [HE.out]; decide, by rw [HE.out]; rfl⟩⟩
   | true =>
    obtain ⟨x0, x1, x2, x50, xlt⟩ := HCX.out _ H2.out
    go_wp2_with (first
     | (refine wpList_load_row rfl 37 (.tmp 2) rfl w.heap.size rfl _ _ _ _ (HH.out _ H2.out) huh rfl (HSH.out _) ?_)
     | (refine wpList_load_mid rfl 40 (.tmp 24) rfl (w.heap.size + 1) 2 rfl ll _ x2 huL8 rfl HLL.out ?_)
     | fail)
    refine (CL.out _ (HBW.out _ H2.out).1).mono ?_
    rintro e w3 ⟨rfl, hb3⟩
    have H3 := Lib.hid (H2.out.trans (hb3.mono H2.out.size))
    clear hb3
    clear x0 x1 x2 x50 xlt
    by_cases hl : le = 0
    · subst hl
      cases sh with
      | true =>
       obtain ⟨x0, x1, x2, x50, xlt⟩ := HCX.out _ H3.out
       go_wp2_with (first
        | (refine wpList_load_row rfl 37 (.tmp 2) rfl w.heap.size rfl _ _ _ _ (HH.out _ H3.out) huh rfl (HSH.out _) ?_)
        | fail)
       refine (CF.out _ (HBW.out _ H3.out).1).mono ?_
       rintro e v2 ⟨rfl, hb9⟩
       have HPHQ2 := Lib.hid (H3.out.trans (hb9.mono H3.out.size))
       clear hb9
       have HBXHQ2 : Hid ((v2.alloc (.cells #[.string ⟨#[]⟩, .string ⟨#[]⟩, .string ⟨#[]⟩, .int .i64 0, .int .i64 0, .int .i64 0, .int .i64 0, .int .i64 0, .string ⟨#[]⟩, .int .i64 0, .int .i64 0, .int .i64 0, .int .i64 0, .int .i64 0, .string ⟨#[]⟩, .int .i64 0, .int .i64 0, .int .i64 0, .int .i64 0, .int .i64 0, .string ⟨#[]⟩, .int .i64 0, .int .i64 0, .int .i64 0, .int .i64 0, .int .i64 0, .string ⟨#[]⟩, .int .i64 0, .int .i64 0, .int .i64 0, .int .i64 0, .int .i64 0, .string ⟨#[]⟩, .int .i64 0, .int .i64 0, .int .i64 0, .int .i64 0, .int .i64 0, .string ⟨#[]⟩, .int .i64 0, .int .i64 0, .int .i64 0, .int .i64 0, .int .i64 0, .string ⟨#[]⟩, .int .i64 0, .int .i64 0, .int .i64 0, .int .i64 0, .int .i64 0, .bool false] 42)).heap[v2.heap.size]? = some (.cells #[.string ⟨#[]⟩, .string ⟨#[]⟩, .string ⟨#[]⟩, .int .i64 0, .int .i64 0, .int .i64 0, .int .i64 0, .int .i64 0, .string ⟨#[]⟩, .int .i64 0, .int .i64 0, .int .i64 0, .int .i64 0, .int .i64 0, .string ⟨#[]⟩, .int .i64 0, .int .i64 0, .int .i64 0, .int .i64 0, .int .i64 0, .string ⟨#[]⟩, .int .i64 0, .int .i64 0, .int .i64 0, .int .i64 0, .int .i64 0, .string ⟨#[]⟩, .int .i64 0, .int .i64 0, .int .i64 0, .int .i64 0, .int .i64 0, .string ⟨#[]⟩, .int .i64 0, .int .i64 0, .int .i64 0, .int .i64 0, .int .i64 0, .string ⟨#[]⟩, .int .i64 0, .int .i64 0, .int .i64 0, .int .i64 0, .int .i64 0, .string ⟨#[]⟩, .int .i64 0, .int .i64 0, .int .i64 0, .int .i64 0, .int .i64 0, .bool false] 42 (0, 0))) := Lib.hid (heap_alloc_new _ _)
       obtain ⟨v2b, hv2b⟩ : ∃ W, W = (v2.alloc (.cells #[.string ⟨#[]⟩, .string ⟨#[]⟩, .string ⟨#[]⟩, .int .i64 0, .int .i64 0, .int .i64 0, .int .i64 0, .int .i64 0, .string ⟨#[]⟩, .int .i64 0, .int .i64 0, .int .i64 0, .int .i64 0, .int .i64 0, .string ⟨#[]⟩, .int .i64 0, .int .i64 0, .int .i64 0, .int .i64 0, .int .i64 0, .string ⟨#[]⟩, .int .i64 0, .int .i64 0, .int .i64 0, .int .i64 0, .int .i64 0, .string ⟨#[]⟩, .int .i64 0, .int .i64 0, .int .i64 0, .int .i64 0, .int .i64 0, .string ⟨#[]⟩, .int .i64 0, .int .i64 0, .int .i64 0, .int .i64 0, .int .i64 0, .string ⟨#[]⟩, .int .i64 0, .int .i64 0, .int .i64 0, .int .i64 0, .int .i64 0, .string ⟨#[]⟩, .int .i64 0, .int .i64 0, .int .i64 0, .int .i64 0, .int .i64 0, .bool false] 42)).setRow v2.heap.size X.toArray := ⟨_, rfl⟩
       have HQ2 : Hid (Below (((w.alloc (.cells h.cells 37)).alloc (.cells cs.toArray 42)).alloc (.cells #[.slice none 0 0, .slice none 0 0, .slice none 0 0, .slice none 0 0, .slice none 0 0, .slice none 0 0, .slice none 0 0, .slice none 0 0, .slice none 0 0, .slice none 0 0, .slice none 0 0, .slice none 0 0, .slice none 0 0, .slice none 0 0, .int .i64 0] 37)).heap.size (((w.alloc (.cells h.cells 37)).alloc (.cells cs.toArray 42)).alloc (.cells #[.slice none 0 0, .slice none 0 0, .slice none 0 0, .slice none 0 0, .slice none 0 0, .slice none 0 0, .slice none 0 0, .slice none 0 0, .slice none 0 0, .slice none 0 0, .slice none 0 0, .slice none 0 0, .slice none 0 0, .slice none 0 0, .int .i64 0] 37)) v2b) := Lib.hid (by rw [hv2b]; exact setRow_below (HPHQ2.out.alloc HPHQ2.out.size _) HPHQ2.out.size _)
       have HRHQ2 : Hid (v2b.heap[v2.heap.size]? = some (.cells X.toArray 42 (0, 0))) := Lib.hid (by rw [hv2b]; exact setRow_heap _ _ _ _ _ _ HBXHQ2.out)
       have HWHQ2 := Lib.hid hv2b
       clear hv2b
       clear x0 x1 x2 x50 xlt
       have HE : Hid (er = 13) := Lib.hid (by rw [HA.out]; rfl)
       go_wp2_with (first
        | (refine wpList_store_row rfl 42 (.tmp 7) (.tmp 38) rfl v2.heap.size X.toArray rfl rfl _ _ HBXHQ2.out (HSNO.out _ HXF.out) (HOO.out _ HXF.out) (HOC.out _ HXF.out) ?_; rw [← HWHQ2.out])
        | (refine wpList_store_row rfl 37 (.tmp 4) (.tmp 55) rfl (w.heap.size + 2) Hs.zero rfl rfl _ _ (HZ.out _ HQ2.out) HSQ.out rfl H1Q.out ?_)
        | fail)
       exact bodyPost_ret (results_row_tmp rfl _ _ (w.heap.size + 2) _ _ _ _ rfl (setRow_heap _ _ _ _ _ _ (HZ.out _ HQ2.out)) huh rfl HSQ.out) rfl ⟨setRow_below (HBW.out _ HQ2.out).1 (by omega) _, .inl ⟨by rw [HE.out]; decide, by rw [HE.out]; rfl⟩⟩
      | false =>
       obtain ⟨x0, x1, x2, x50, xlt⟩ := HCX.out _ H3.out
       go_wp2_with (first
        | (refine wpList_load_row rfl 37 (.tmp 2) rfl w.heap.size rfl _ _ _ _ (HH.out _ H3.out) huh rfl (HSH.out _) ?_)
        | fail)
       refine (CF.out _ (HBW.out _ H3.out).1).mono ?_
       rintro e v3 ⟨rfl, hb9⟩
       have HPHQ3 := Lib.hid (H3.out.trans (hb9.mono H3.out.size))
       clear hb9
       have HBXHQ3 : Hid ((v3.alloc (.cells #[.string ⟨#[]⟩, .string ⟨#[]⟩, .string ⟨#[]⟩, .int .i64 0, .int .i64 0, .int .i64 0, .int .i64 0, .int .i64 0, .string ⟨#[]⟩, .int .i64 0, .int .i64 0, .int .i64 0, .int .i64 0, .int .i64 0, .string ⟨#[]⟩, .int .i64 0, .int .i64 0, .int .i64 0, .int .i64 0, .int .i64 0, .string ⟨#[]⟩, .int .i64 0, .int .i64 0, .int .i64 0, .int .i64 0, .int .i64 0, .string ⟨#[]⟩, .int .i64 0, .int .i64 0, .int .i64 0, .int .i64 0, .int .i64 0, .string ⟨#[]⟩, .int .i64 0, .int .i64 0, .int .i64 0, .int .i64 0, .int .i64 0, .string ⟨#[]⟩, .int .i64 0, .int .i64 0, .int .i64 0, .int .i64 0, .int .i64 0, .string ⟨#[]⟩, .int .i64 0, .int .i64 0, .int .i64 0, .int .i64 0, .int .i64 0, .bool false] 42)).heap[v3.heap.size]? = some (.cells #[.string ⟨#[]⟩, .string ⟨#[]⟩, .string ⟨#[]⟩, .int .i64 0, .int .i64 0, .int .i64 0, .int .i64 0, .int .i64 0, .string ⟨#[]⟩, .int .i64 0, .int .i64 0, .int .i64 0, .int .i64 0, .int .i64 0, .string ⟨#[]⟩, .int .i64 0, .int .i64 0, .int .i64 0, .int .i64 0, .int .i64 0, .string ⟨#[]⟩, .int .i64 0, .int .i64 0, .int .i64 0, .int .i64 0, .int .i64 0, .string ⟨#[]⟩, .int .i64 0, .int .i64 0, .int .i64 0, .int .i64 0, .int .i64 0, .string ⟨#[]⟩, .int .i64 0, .int .i64 0, .int .i64 0, .int .i64 0, .int .i64 0, .string ⟨#[]⟩, .int .i64 0, .int .i64 0, .int .i64 0, .int .i64 0, .int .i64 0, .string ⟨#[]⟩, .int .i64 0, .int .i64 0, .int .i64 0, .int .i64 0, .int .i64 0, .bool false] 42 (0, 0))) := Lib.hid (heap_alloc_new _ _)
       obtain ⟨v3b, hv3b⟩ : ∃ W, W = (v3.alloc (.cells #[.string ⟨#[]⟩, .string ⟨#[]⟩, .string ⟨#[]⟩, .int .i64 0, .int .i64 0, .int .i64 0, .int .i64 0, .int .i64 0, .string ⟨#[]⟩, .int .i64 0, .int .i64 0, .int .i64 0, .int .i64 0, .int .i64 0, .string ⟨#[]⟩, .int .i64 0, .int .i64 0, .int .i64 0, .int .i64 0, .int .i64 0, .string ⟨#[]⟩, .int .i64 0, .int .i64 0, .int .i64 0, .int .i64 0, .int .i64 0, .string ⟨#[]⟩, .int .i64 0, .int .i64 0, .int .i64 0, .int .i64 0, .int .i64 0, .string ⟨#[]⟩, .int .i64 0, .int .i64 0, .int .i64 0, .int .i64 0, .int .i64 0, .string ⟨#[]⟩, .int .i64 0, .int .i64 0, .int .i64 0, .int .i64 0, .int .i64 0, .string ⟨#[]⟩, .int .i64 0, .int .i64 0, .int .i64 0, .int .i64 0, .int .i64 0, .bool false] 42)).setRow v3.heap.size X.toArray := ⟨_, rfl⟩
       have HQ3 : Hid (Below (((w.alloc (.cells h.cells 37)).alloc (.cells cs.toArray 42)).alloc (.cells #[.slice none 0 0, .slice none 0 0, .slice none 0 0, .slice none 0 0, .slice none 0 0, .slice none 0 0, .slice none 0 0, .slice none 0 0, .slice none 0 0, .slice none 0 0, .slice none 0 0, .slice none 0 0, .slice none 0 0, .slice none 0 0, .int .i64 0] 37)).heap.size (((w.alloc (.cells h.cells 37)).alloc (.cells cs.toArray 42)).alloc (.cells #[.slice none 0 0, .slice none 0 0, .slice none 0 0, .slice none 0 0, .slice none 0 0, .slice none 0 0, .slice none 0 0, .slice none 0 0, .slice none 0 0, .slice none 0 0, .slice none 0 0, .slice none 0 0, .slice none 0 0, .slice none 0 0, .int .i64 0] 37)) v3b) := Lib.hid (by rw [hv3b]; exact setRow_below (HPHQ3.out.alloc HPHQ3.out.size _) HPHQ3.out.size _)
       have HRHQ3 : Hid (v3b.heap[v3.heap.size]? = some (.cells X.toArray 42 (0, 0))) := Lib.hid (by rw [hv3b]; exact setRow_heap _ _ _ _ _ _ HBXHQ3.out)
       have HWHQ3 := Lib.hid hv3b
       clear hv3b
       clear x0 x1 x2 x50 xlt
       cases il with
       | true =>
        have HE : Hid (er = 11) := Lib.hid (by rw [HA.out]; rfl)
        go_wp2_with (first
         | (refine wpList_store_row rfl 42 (.tmp 7) (.tmp 38) rfl v3.heap.size X.toArray rfl rfl _ _ HBXHQ3.out (HSNO.out _ HXF.out) (HOO.out _ HXF.out) (HOC.out _ HXF.out) ?_; rw [← HWHQ3.out])
         | (refine wpList_store_row rfl 37 (.tmp 4) (.tmp 55) rfl (w.heap.size + 2) Hs.zero rfl rfl _ _ (HZ.out _ HQ3.out) HSQ.out rfl H1Q.out ?_)
         | fail)
        exact bodyPost_ret (results_row_tmp rfl _ _ (w.heap.size + 2) _ _ _ _ rfl (setRow_heap _ _ _ _ _ _ (HZ.out _ HQ3.out)) huh rfl HSQ.out) rfl ⟨setRow_below (HBW.out _ HQ3.out).1 (by omega) _, .inl ⟨by rw [HE.out]; decide, by rw [HE.out]; rfl⟩⟩
       | false =>
        obtain ⟨d6, dlt⟩ := HL6.out _ HQ3.out
        by_cases q1 : 32 ≤ m
        · have HE : Hid (er = 14) := Lib.hid (by rw [HA.out]; simp [q1])
          go_wp2_with (first
           | (refine wpList_store_row rfl 42 (.tmp 7) (.tmp 38) rfl v3.heap.size X.toArray rfl rfl _ _ HBXHQ3.out (HSNO.out _ HXF.out) (HOO.out _ HXF.out) (HOC.out _ HXF.out) ?_; rw [← HWHQ3.out])
           | (refine wpList_store_row rfl 37 (.tmp 4) (.tmp 55) rfl (w.heap.size + 2) Hs.zero rfl rfl _ _ (HZ.out _ HQ3.out) HSQ.out rfl H1Q.out ?_)
           | fail)
          exact bodyPost_ret (results_row_tmp rfl _ _ (w.heap.size + 2) _ _ _ _ rfl (setRow_heap _ _ _ _ _ _ (HZ.out _ HQ3.out)) huh rfl HSQ.out) rfl ⟨setRow_below (HBW.out _ HQ3.out).1 (by omega) _, .inl ⟨by rw [HE.out]; decide, by rw [HE.out]; rfl⟩⟩
        · have HE : Hid (er = 0) := Lib.hid (by rw [HA.out]; simp [q1])
          go_wp2_with (first
           | (refine wpList_store_row rfl 42 (.tmp 7) (.tmp 38) rfl v3.heap.size X.toArray rfl rfl _ _ HBXHQ3.out (HSNO.out _ HXF.out) (HOO.out _ HXF.out) (HOC.out _ HXF.out) ?_; rw [← HWHQ3.out])
           | (refine wpList_load_row rfl 37 (.tmp 2) rfl w.heap.size rfl _ _ _ _ (HH.out _ HQ3.out) huh rfl (HSH.out _) ?_)
           | (refine wpList_load_row rfl 42 (.tmp 3) rfl (w.heap.size + 1) rfl _ _ _ _ (HX.out _ HQ3.out) huNO rfl (HSNO.out _ HF.out) ?_)
           | fail)
          refine (HPU.out _ (HBW.out _ HQ3.out).1).mono ?_
          rintro e w5 ⟨hb9, A, n, cc, hl, hown, rfl⟩
          have H9 := Lib.hid (HQ3.out.trans (hb9.mono HQ3.out.size))
          have HO9 := Lib.hid hown
          have HLE := Lib.hid hl
          have HSZ9 := Lib.hid (HBW.out _ HQ3.out).2
          clear hb9 hown hl
          go_wp2_with (first
           | (refine wpList_store_row rfl 37 (.tmp 4) (.tmp 59) rfl (w.heap.size + 2) (h.set 6 A n cc).cells rfl rfl _ _ (HZ.out _ H9.out) (HSH.out _) rfl (H1C.out _) ?_)
           | fail)
          exact bodyPost_ret (results_row_tmp rfl _ _ (w.heap.size + 2) _ _ _ _ rfl (setRow_heap _ _ _ _ _ _ (HZ.out _ H9.out)) huh rfl (HSH.out _)) rfl ⟨setRow_below (HBW.out _ H9.out).1 (by omega) _, .inr ⟨HE.out, A, n, cc, HLE.out, own_rowed HO9.out (by have := HSZ9.out; omega) (by have := HSZ9.out; omega), rfl⟩⟩
    · have bk : ((le : Int) == 0) = false := by simpa using hl
      have bn : ((le : Int) != 0) = true := by simpa using hl
      have HKL := Lib.hid hl
      clear hl
      obtain ⟨x0, x1, x2, x50, xlt⟩ := HCX.out _ H3.out
      go_wp2_with (first
       | (refine wpList_load_row rfl 37 (.tmp 2) rfl w.heap.size rfl _ _ _ _ (HH.out _ H3.out) huh rfl (HSH.out _) ?_)
       | fail)
      refine (CF.out _ (HBW.out _ H3.out).1).mono ?_
      rintro e v4 ⟨rfl, hb9⟩
      have HPHQ4 := Lib.hid (H3.out.trans (hb9.mono H3.out.size))
      clear hb9
      have HBXHQ4 : Hid ((v4.alloc (.cells #[.string ⟨#[]⟩, .string ⟨#[]⟩, .string ⟨#[]⟩, .int .i64 0, .int .i64 0, .int .i64 0, .int .i64 0, .int .i64 0, .string ⟨#[]⟩, .int .i64 0, .int .i64 0, .int .i64 0, .int .i64 0, .int .i64 0, .string ⟨#[]⟩, .int .i64 0, .int .i64 0, .int .i64 0, .int .i64 0, .int .i64 0, .string ⟨#[]⟩, .int .i64 0, .int .i64 0, .int .i64 0, .int .i64 0, .int .i64 0, .string ⟨#[]⟩, .int .i64 0, .int .i64 0, .int .i64 0, .int .i64 0, .int .i64 0, .string ⟨#[]⟩, .int .i64 0, .int .i64 0, .int .i64 0, .int .i64 0, .int .i64 0, .string ⟨#[]⟩, .int .i64 0, .int .i64 0, .int .i64 0, .int .i64 0, .int .i64 0, .string ⟨#[]⟩, .int .i64 0, .int .i64 0, .int .i64 0, .int .i64 0, .int .i64 0, .bool false] 42)).heap[v4.heap.size]? = some (.cells #[.string ⟨#[]⟩, .string ⟨#[]⟩, .string ⟨#[]⟩, .int .i64 0, .int .i64 0, .int .i64 0, .int .i64 0, .int .i64 0, .string ⟨#[]⟩, .int .i64 0, .int .i64 0, .int .i64 0, .int .i64 0, .int .i64 0, .string ⟨#[]⟩, .int .i64 0, .int .i64 0, .int .i64 0, .int .i64 0, .int .i64 0, .string ⟨#[]⟩, .int .i64 0, .int .i64 0, .int .i64 0, .int .i64 0, .int .i64 0, .string ⟨#[]⟩, .int .i64 0, .int .i64 0, .int .i64 0, .int .i64 0, .int .i64 0, .string ⟨#[]⟩, .int .i64 0, .int .i64 0, .int .i64 0, .int .i64 0, .int .i64 0, .string ⟨#[]⟩, .int .i64 0, .int .i64 0, .int .i64 0, .int .i64 0, .int .i64 0, .string ⟨#[]⟩, .int .i64 0, .int .i64 0, .int .i64 0, .int .i64 0, .int .i64 0, .bool false] 42 (0, 0))) := Lib.hid (heap_alloc_new _ _)
      obtain ⟨v4b, hv4b⟩ : ∃ W, W = (v4.alloc (.cells #[.string ⟨#[]⟩, .string ⟨#[]⟩, .string ⟨#[]⟩, .int .i64 0, .int .i64 0, .int .i64 0, .int .i64 0, .int .i64 0, .string ⟨#[]⟩, .int .i64 0, .int .i64 0, .int .i64 0, .int .i64 0, .int .i64 0, .string ⟨#[]⟩, .int .i64 0, .int .i64 0, .int .i64 0, .int .i64 0, .int .i64 0, .string ⟨#[]⟩, .int .i64 0, .int .i64 0, .int .i64 0, .int .i64 0, .int .i64 0, .string ⟨#[]⟩, .int .i64 0, .int .i64 0, .int .i64 0, .int .i64 0, .int .i64 0, .string ⟨#[]⟩, .int .i64 0, .int .i64 0, .int .i64 0, .int .i64 0, .int .i64 0, .string ⟨#[]⟩, .int .i64 0, .int .i64 0, .int .i64 0, .int .i64 0, .int .i64 0, .string ⟨#[]⟩, .int .i64 0, .int .i64 0, .int .i64 0, .int .i64 0, .int .i64 0, .bool false] 42)).setRow v4.heap.size X.toArray := ⟨_, rfl⟩
      have HQ4 : Hid (Below (((w.alloc (.cells h.cells 37)).alloc (.cells cs.toArray 42)).alloc (.cells #[.slice none 0 0, .slice none 0 0, .slice none 0 0, .slice none 0 0, .slice none 0 0, .slice none 0 0, .slice none 0 0, .slice none 0 0, .slice none 0 0, .slice none 0 0, .slice none 0 0, .slice none 0 0, .slice none 0 0, .slice none 0 0, .int .i64 0] 37)).heap.size (((w.alloc (.cells h.cells 37)).alloc (.cells cs.toArray 42)).alloc (.cells #[.slice none 0 0, .slice none 0 0, .slice none 0 0, .slice none 0 0, .slice none 0 0, .slice none 0 0, .slice none 0 0, .slice none 0 0, .slice none 0 0, .slice none 0 0, .slice none 0 0, .slice none 0 0, .slice none 0 0, .slice none 0 0, .int .i64 0] 37)) v4b) := Lib.hid (by rw [hv4b]; exact setRow_below (HPHQ4.out.alloc HPHQ4.out.size _) HPHQ4.out.size _)
      have HRHQ4 : Hid (v4b.heap[v4.heap.size]? = some (.cells X.toArray 42 (0, 0))) := Lib.hid (by rw [hv4b]; exact setRow_heap _ _ _ _ _ _ HBXHQ4.out)
      have HWHQ4 := Lib.hid hv4b
      clear hv4b
      clear x0 x1 x2 x50 xlt
      have HE : Hid (er = le) := Lib.hid (by rw [HA.out]; simp [HKL.out])
      go_wp2_with (first
       | (refine wpList_store_row rfl 42 (.tmp 7) (.tmp 38) rfl v4.heap.size X.toArray rfl rfl _ _ HBXHQ4.out (HSNO.out _ HXF.out) (HOO.out _ HXF.out) (HOC.out _ HXF.out) ?_; rw [← HWHQ4.out])
       | (refine wpList_store_row rfl 37 (.tmp 4) (.tmp 55) rfl (w.heap.size + 2) Hs.zero rfl rfl _ _ (HZ.out _ HQ4.out) HSQ.out rfl H1Q.out ?_)
       | fail)
      exact bodyPost_ret (results_row_tmp rfl _ _ (w.heap.size + 2) _ _ _ _ rfl (setRow_heap _ _ _ _ _ _ (HZ.out _ HQ4.out)) huh rfl HSQ.out) rfl ⟨setRow_below (HBW.out _ HQ4.out).1 (by omega) _, .inl ⟨by rw [HE.out]; exact HKL.out, by rw [HE.out]; rfl⟩⟩
 · have bk : ((nm : Int) == 0) = false := by simpa using hk
   have bn : ((nm : Int) != 0) = true := by simpa using hk
   have HKL := Lib.hid hk
   clear hk
   obtain ⟨x0, x1, x2, x50, xlt⟩ := HCX.out _ H1.out
   go_wp2_with (first
    | (refine wpList_load_row rfl 37 (.tmp 2) rfl w.heap.size rfl _ _ _ _ (HH.out _ H1.out) huh rfl (HSH.out _) ?_)
    | fail)
   refine (CF.out _ (HBW.out _ H1.out).1).mono ?_
   rintro e v5 ⟨rfl, hb9⟩
   have HPHQ5 := Lib.hid (H1.out.trans (hb9.mono H1.out.size))
   clear hb9
   have HBXHQ5 : Hid ((v5.alloc (.cells #[.string ⟨#[]⟩, .string ⟨#[]⟩, .string ⟨#[]⟩, .int .i64 0, .int .i64 0, .int .i64 0, .int .i64 0, .int .i64 0, .string ⟨#[]⟩, .int .i64 0, .int .i64 0, .int .i64 0, .int .i64 0, .int .i64 0, .string ⟨#[]⟩, .int .i64 0, .int .i64 0, .int .i64 0, .int .i64 0, .int .i64 0, .string ⟨#[]⟩, .int .i64 0, .int .i64 0, .int .i64 0, .int .i64 0, .int .i64 0, .string ⟨#[]⟩, .int .i64 0, .int .i64 0, .int .i64 0, .int .i64 0, .int .i64 0, .string ⟨#[]⟩, .int .i64 0, .int .i64 0, .int .i64 0, .int .i64 0, .int .i64 0, .string ⟨#[]⟩, .int .i64 0, .int .i64 0, .int .i64 0, .int .i64 0, .int .i64 0, .string ⟨#[]⟩, .int .i64 0, .int .i64 0, .int .i64 0, .int .i64 0, .int .i64 0, .bool false] 42)).heap[v5.heap.size]? = some (.cells #[.string ⟨#[]⟩, .string ⟨#[]⟩, .string ⟨#[]⟩, .int .i64 0, .int .i64 0, .int .i64 0, .int .i64 0, .int .i64 0, .string ⟨#[]⟩, .int .i64 0, .int .i64 0, .int .i64 0, .int .i64 0, .int .i64 0, .string ⟨#[]⟩, .int .i64 0, .int .i64 0, .int .i64 0, .int .i64 0, .int .i64 0, .string ⟨#[]⟩, .int .i64 0, .int .i64 0, .int .i64 0, .int .i64 0, .int .i64 0, .string ⟨#[]⟩, .int .i64 0, .int .i64 0, .int .i64 0, .int .i64 0, .int .i64 0, .string ⟨#[]⟩, .int .i64 0, .int .i64 0, .int .i64 0, .int .i64 0, .int .i64 0, .string ⟨#[]⟩, .int .i64 0, .int .i64 0, .int .i64 0, .int .i64 0, .int .i64 0, .string ⟨#[]⟩, .int .i64 0, .int .i64 0, .int .i64 0, .int .i64 0, .int .i64 0, .bool false] 42 (0, 0))) := Lib.hid (heap_alloc_new _ _)
   obtain ⟨v5b, hv5b⟩ : ∃ W, W = (v5.alloc (.cells #[.string ⟨#[]⟩, .string ⟨#[]⟩, .string ⟨#[]⟩, .int .i64 0, .int .i64 0, .int .i64 0, .int .i64 0, .int .i64 0, .string ⟨#[]⟩, .int .i64 0, .int .i64 0, .int .i64 0, .int .i64 0, .int .i64 0, .string ⟨#[]⟩, .int .i64 0, .int .i64 0, .int .i64 0, .int .i64 0, .int .i64 0, .string ⟨#[]⟩, .int .i64 0, .int .i64 0, .int .i64 0, .int .i64 0, .int .i64 0, .string ⟨#[]⟩, .int .i64 0, .int .i64 0, .int .i64 0, .int .i64 0, .int .i64 0, .string ⟨#[]⟩, .int .i64 0, .int .i64 0, .int .i64 0, .int .i64 0, .int .i64 0, .string ⟨#[]⟩, .int .i64 0, .int .i64 0, .int .i64 0, .int .i64 0, .int .i64 0, .string ⟨#[]⟩, .int .i64 0, .int .i64 0, .int .i64 0, .int .i64 0, .int .i64 0, .bool false] 42)).setRow v5.heap.size X.toArray := ⟨_, rfl⟩
   have HQ5 : Hid (Below (((w.alloc (.cells h.cells 37)).alloc (.cells cs.toArray 42)).alloc (.cells #[.slice none 0 0, .slice none 0 0, .slice none 0 0, .slice none 0 0, .slice none 0 0, .slice none 0 0, .slice none 0 0, .slice none 0 0, .slice none 0 0, .slice none 0 0, .slice none 0 0, .slice none 0 0, .slice none 0 0, .slice none 0 0, .int .i64 0] 37)).heap.size (((w.alloc (.cells h.cells 37)).alloc (.cells cs.toArray 42)).alloc (.cells #[.slice none 0 0, .slice none 0 0, .slice none 0 0, .slice none 0 0, .slice none 0 0, .slice none 0 0, .slice none 0 0, .slice none 0 0, .slice none 0 0, .slice none 0 0, .slice none 0 0, .slice none 0 0, .slice none 0 0, .slice none 0 0, .int .i64 0] 37)) v5b) := Lib.hid (by rw [hv5b]; exact setRow_below (HPHQ5.out.alloc HPHQ5.out.size _) HPHQ5.out.size _)
   have HRHQ5 : Hid (v5b.heap[v5.heap.size]? = some (.cells X.toArray 42 (0, 0))) := Lib.hid (by rw [hv5b]; exact setRow_heap _ _ _ _ _ _ HBXHQ5.out)
   have HWHQ5 := Lib.hid hv5b
   clear hv5b
   clear x0 x1 x2 x50 xlt
   have HE : Hid (er = nm) := Lib.hid (by rw [HA.out]; simp [HKL.out])
   go_wp2_with (first
    | (refine wpList_store_row rfl 42 (.tmp 7) (.tmp 38) rfl v5.heap.size X.toArray rfl rfl _ _ HBXHQ5.out (HSNO.out _ HXF.out) (HOO.out _ HXF.out) (HOC.out _ HXF.out) ?_; rw [← HWHQ5.out])
    | (refine wpList_store_row rfl 37 (.tmp 4) (.tmp 55) rfl (w.heap.size + 2) Hs.zero rfl rfl _ _ (HZ.out _ HQ5.out) HSQ.out rfl H1Q.out ?_)
    | fail)
   exact bodyPost_ret (results_row_tmp rfl _ _ (w.heap.size + 2) _ _ _ _ rfl (setRow_heap _ _ _ _ _ _ (HZ.out _ HQ5.out)) huh rfl HSQ.out) rfl ⟨setRow_below (HBW.out _ HQ5.out).1 (by omega) _, .inl ⟨by rw [HE.out]; exact HKL.out, by rw [HE.out]; rfl⟩⟩

end Go.Proofs.YtgbilfkjfeheaaaGreat
