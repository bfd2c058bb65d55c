/-
  CONTRACT of the law's examples ('awake').
-/
import Derived.Test.YtcfojpgfecelcaaFText
import Derived.Test.YtcfojpgfecelcaaFJoin
namespace Go.Proofs.Ytcfojpgfecelcaa
open Go.RowKit

def abB : ByteArray := ⟨#[97, 98]⟩
def exA : ByteArray := Pl.secB 1 0 1 abB
def exB : ByteArray := Pl.secB 2 0 2 (Pl.piece (zerosB 56) 0)
theorem ex_piece : Pl.piece abB 0 = abB := by
  apply Pl.ba_ext
  rw [Pl.piece_list]
  rfl
theorem ex_secA : Pl.secs 1 abB = [exA] := by
  show (List.range 1).map _ = _
  rw [show List.range 1 = [0] from rfl]
  show [Pl.secB 1 0 1 (Pl.piece abB 0)] = _
  rw [ex_piece]
  rfl
theorem ex_secB : ∃ y, Pl.secs 2 (zerosB 56) = [exB, y] := by
  refine ⟨Pl.secB 2 1 2 (Pl.piece (zerosB 56) 1), ?_⟩
  unfold Pl.secs
  rw [zerosB_size, show Pl.partsN 56 = 2 from rfl, show List.range 2 = [0, 1] from rfl]
  rfl
theorem ex_size : exA.size = 64 := Pl.secB_size 1 0 1 abB (by decide)
theorem ex_cut : exA.extract 0 9 = ⟨#[0, 0, 0, 1, 0, 1, 2, 97, 98]⟩ := by
  apply Pl.ba_ext
  rw [Pl.ext_list]
  show ((Pl.secL 1 0 1 [97, 98]).toArray.toList.take 9).drop 0 = _
  rfl
theorem ex_join1 : Pl.joinF [exB] = none := by
  obtain ⟨y, hy⟩ := ex_secB
  have := Pl.join_torn (n := 2) (data := zerosB 56) (by decide) (by decide) (by rw [zerosB_size]; decide) 1 (by rw [zerosB_size]; decide)
  rwa [hy] at this
theorem ex_join2 : Pl.joinF [exA, ⟨#[120]⟩] = some (1, [97, 98], 1) := by
  have := Pl.join_lay (n := 1) (data := abB) (by decide) (by decide) (by decide) [⟨#[120]⟩]
  rwa [ex_secA] at this

theorem ex_lay1 (w : World) : Calls Try.prog 9 #[.int .i64 1, .string ⟨#[97, 98]⟩] w fun e w' => ∃ b off c, e = .returned (.tuple #[.slice (some ⟨b, off, none⟩) 1 c, .int .i64 0]) ∧ w'.cell? ⟨b, off, none⟩ = some (.string exA) ∧ b < w'.heap.size ∧ Below w.heap.size w w' := by
  have h := lay_any 1 abB w
  rw [show Pl.layF 1 abB = some [exA] from by rw [← ex_secA]; exact layF_some (n := 1) (by decide) (by decide) (by decide)] at h
  refine h.mono ?_
  rintro e w' ⟨v, rfl, A, c, rfl, _, _, hr, hb⟩
  obtain ⟨b, off, rfl, hlt, hc⟩ := hr.str_at (i := 0) (by simp)
  exact ⟨b, off, c, rfl, hc 0 (by simp), hlt, hb⟩
theorem ex_lay2 (w : World) : Calls Try.prog 9 #[.int .i64 2, .string (zerosB 56)] w fun e w' => ∃ b off c, e = .returned (.tuple #[.slice (some ⟨b, off, none⟩) 2 c, .int .i64 0]) ∧ w'.cell? ⟨b, off, none⟩ = some (.string exB) ∧ b < w'.heap.size ∧ Below w.heap.size w w' := by
  obtain ⟨y, hy⟩ := ex_secB
  have h := lay_any 2 (zerosB 56) w
  rw [show Pl.layF 2 (zerosB 56) = some [exB, y] from by rw [← hy]; exact layF_some (n := 2) (by decide) (by decide) (by rw [zerosB_size]; decide)] at h
  refine h.mono ?_
  rintro e w' ⟨v, rfl, A, c, rfl, _, _, hr, hb⟩
  obtain ⟨b, off, rfl, hlt, hc⟩ := hr.str_at (i := 0) (by simp)
  exact ⟨b, off, c, rfl, hc 0 (by simp), hlt, hb⟩
theorem ex_lay3 (w : World) : Calls Try.prog 9 #[.int .i64 0, .string ⟨#[]⟩] w fun e w' => e = .returned (.tuple #[.slice none 0 0, .int .i64 43]) ∧ Below w.heap.size w w' := by
  have h := lay_any 0 ⟨#[]⟩ w
  rw [layF_none (.inl rfl)] at h
  exact h
theorem ex_lay4 (w : World) : Calls Try.prog 9 #[.int .i64 1, .string (zerosB 441)] w fun e w' => e = .returned (.tuple #[.slice none 0 0, .int .i64 43]) ∧ Below w.heap.size w w' := by
  have h := lay_any 1 (zerosB 441) w
  rw [layF_none (.inr (by rw [zerosB_size]; decide))] at h
  exact h
theorem ex_j1 (w : World) : Calls Try.prog 15 #[.slice (some ⟨w.heap.size, 0, none⟩) 1 1] (w.alloc (.cells #[.string exB] 9)) fun e w' => e = .returned (.tuple #[.int .i64 0, .string ⟨#[]⟩, .int .i64 0, .int .i64 43]) ∧ Below w.heap.size w w' := by
  have hb : Below w.heap.size w (w.alloc (.cells #[.string exB] 9)) := (Below.refl _ _).alloc (Nat.le_refl _) _
  refine (join_any (some ⟨w.heap.size, 0, none⟩) 1 1 [exB] _ rfl (by omega) (fun _ => ⟨w.heap.size, 0, rfl, by simp, fun j u hu => by
    match j, hu with
    | 0, hu => simp [sc] at hu; subst hu; simp [go_sem]
    | j + 1, hu => simp [sc] at hu⟩)).mono ?_
  rintro e w' ⟨he, hb'⟩
  rw [ex_join1] at he
  exact ⟨he, hb.trans (hb'.mono hb.size)⟩
theorem ex_j2 (w : World) : Calls Try.prog 15 #[.slice (some ⟨w.heap.size, 0, none⟩) 2 2] (w.alloc (.cells #[.string exA, .string ⟨#[120]⟩] 9)) fun e w' => e = .returned (.tuple #[.int .i64 1, .string ⟨#[97, 98]⟩, .int .i64 1, .int .i64 0]) ∧ Below w.heap.size w w' := by
  have hb : Below w.heap.size w (w.alloc (.cells #[.string exA, .string ⟨#[120]⟩] 9)) := (Below.refl _ _).alloc (Nat.le_refl _) _
  refine (join_any (some ⟨w.heap.size, 0, none⟩) 2 2 [exA, ⟨#[120]⟩] _ rfl (by omega) (fun _ => ⟨w.heap.size, 0, rfl, by simp, fun j u hu => by
    match j, hu with
    | 0, hu => simp [sc] at hu; subst hu; simp [go_sem]
    | 1, hu => simp [sc] at hu; subst hu; simp [go_sem]
    | j + 2, hu => simp [sc] at hu⟩)).mono ?_
  rintro e w' ⟨he, hb'⟩
  rw [ex_join2] at he
  exact ⟨he, hb.trans (hb'.mono hb.size)⟩

set_option maxRecDepth 100000 in
set_option maxHeartbeats 3200000 in
theorem awake_any (w : World) : Calls Try.prog 14 #[] w fun e w' => e = .returned (.bool true) ∧ Below w.heap.size w w' := by
  have hsz := ex_size
  have hct := ex_cut
  have hz56 : ∀ W, Calls Try.prog 23 #[.int .i64 56] W fun e w' => e = .returned (.string (zerosB 56)) ∧ Below W.heap.size W w' := fun W => zeros_any 56 W (by decide)
  have hz441 : ∀ W, Calls Try.prog 23 #[.int .i64 441] W fun e w' => e = .returned (.string (zerosB 441)) ∧ Below W.heap.size W w' := fun W => zeros_any 441 W (by decide)
  have Z56 := Lib.hid hz56
  have Z441 := Lib.hid hz441
  clear hz56 hz441
  go_enter Try.func14, Try.ntmps14
  go_wp2_with fail
  refine (ex_lay1 _).mono ?_
  rintro e w1 ⟨ba, oa, ca, rfl, hca, hba, h1⟩
  have B1 := Lib.hid h1
  clear h1
  go_wp2_with fail
  refine (Z56.out _).mono ?_
  rintro e w2 ⟨rfl, h2⟩
  have B2 := Lib.hid (B1.out.trans (h2.mono B1.out.size))
  replace hca := (h2.cell (p := ⟨ba, oa, none⟩) hba).trans hca
  replace hba := Nat.lt_of_lt_of_le hba h2.size
  clear h2
  go_wp2_with fail
  refine (ex_lay2 _).mono ?_
  rintro e w3 ⟨bb, ob, cb, rfl, hcb, hbb, h3⟩
  have B3 := Lib.hid (B2.out.trans (h3.mono B2.out.size))
  replace hca := (h3.cell (p := ⟨ba, oa, none⟩) hba).trans hca
  replace hba := Nat.lt_of_lt_of_le hba h3.size
  clear h3
  go_wp2_with fail
  refine (ex_lay3 _).mono ?_
  rintro e w4 ⟨rfl, h4⟩
  have B4 := Lib.hid (B3.out.trans (h4.mono B3.out.size))
  replace hca := (h4.cell (p := ⟨ba, oa, none⟩) hba).trans hca
  replace hba := Nat.lt_of_lt_of_le hba h4.size
  replace hcb := (h4.cell (p := ⟨bb, ob, none⟩) hbb).trans hcb
  replace hbb := Nat.lt_of_lt_of_le hbb h4.size
  clear h4
  go_wp2_with fail
  refine (Z441.out _).mono ?_
  rintro e w5 ⟨rfl, h5⟩
  have B5 := Lib.hid (B4.out.trans (h5.mono B4.out.size))
  replace hca := (h5.cell (p := ⟨ba, oa, none⟩) hba).trans hca
  replace hba := Nat.lt_of_lt_of_le hba h5.size
  replace hcb := (h5.cell (p := ⟨bb, ob, none⟩) hbb).trans hcb
  replace hbb := Nat.lt_of_lt_of_le hbb h5.size
  clear h5
  go_wp2_with fail
  refine (ex_lay4 _).mono ?_
  rintro e w6 ⟨rfl, h6⟩
  have B6 := Lib.hid (B5.out.trans (h6.mono B5.out.size))
  replace hca := (h6.cell (p := ⟨ba, oa, none⟩) hba).trans hca
  replace hba := Nat.lt_of_lt_of_le hba h6.size
  replace hcb := (h6.cell (p := ⟨bb, ob, none⟩) hbb).trans hcb
  replace hbb := Nat.lt_of_lt_of_le hbb h6.size
  clear h6
  go_wp2_with fail
  refine (ex_j1 _).mono ?_
  rintro e w7 ⟨rfl, h7⟩
  have B7 := Lib.hid (B6.out.trans (h7.mono B6.out.size))
  replace hca := (h7.cell (p := ⟨ba, oa, none⟩) hba).trans hca
  replace hba := Nat.lt_of_lt_of_le hba h7.size
  clear h7 hcb hbb
  go_wp2_with fail
  refine (ex_j2 _).mono ?_
  rintro e w8 ⟨rfl, h8⟩
  have B8 := Lib.hid (B7.out.trans (h8.mono B7.out.size))
  replace hca := (h8.cell (p := ⟨ba, oa, none⟩) hba).trans hca
  clear h8
  go_wp2_with fail
  go_ret
  exact ⟨rfl, B8.out⟩
end Go.Proofs.Ytcfojpgfecelcaa
