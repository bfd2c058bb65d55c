/-
  CONTRACTS of stevedorekeep's lent, of each list of a house: a copy with a thing behind its length.
-/
import Derived.Test.YtjphjblcahadkaaGreatHHouse
import Derived.Laws.MakeOwn
import Derived.Laws.Rows
namespace Go.Proofs.YtjphjblcahadkaaGreat
open Go.RowKit

/-- What lent leaves: the list, and bh behind it. -/
def LentPost (L : List (List Value)) (bh : List Value) (w : World) (e : Ending) (w' : World) : Prop :=
  ∃ (g c : Nat), e = .returned (.slice (some ⟨g, 0, none⟩) L.length c) ∧ L.length + 1 ≤ c ∧ c ≤ 9223372036854775807 ∧ w.heap.size ≤ g ∧ Rd w' w'.heap.size (some ⟨g, 0, none⟩) (L.flatten ++ bh) ∧ Below w.heap.size w w'


set_option maxRecDepth 100000 in
set_option maxHeartbeats 1600000 in
theorem lentItem (A : Option Addr) (n c : Nat) (L : List (List Value)) (bh : List Value) (w : World) (hn : n = L.length) (hn4 : n ≤ 1000) (hL : Things kItem L) (hb : Fits kItem bh) (hr : Rd w w.heap.size A L.flatten) :
    Calls Tryz.prog 15 #[.slice A n c, .agg bh.toArray] w (LentPost L bh w) := by
  obtain ⟨i0, z0, hi0, hz0, hz1, hz2, hz3⟩ := info_thing (P := Tryz.prog) (T := 59) (sz := 14) (by kernel_rfl)
  have hk : kItem.length = 14 := by decide
  have hlL : L.flatten.length = n * 14 := by rw [flat_length hL.len, hk, hn]
  have hlb : bh.length = 14 := by rw [hb.length, hk]
  obtain ⟨w0, hw0⟩ : ∃ w0, w0 = w.alloc (.cells bh.toArray 59) := ⟨_, rfl⟩
  have hb0 : Below w.heap.size w w0 := by rw [hw0]; exact (Below.refl _ _).alloc (Nat.le_refl _) _
  have hs0 : w0.heap.size = w.heap.size + 1 := by rw [hw0]; simp
  have HBX : Hid (w0.heap[w.heap.size]? = some (.cells bh.toArray 59 (0, 0))) := Lib.hid (by rw [hw0]; exact heap_alloc_new _ _)
  obtain ⟨w1, hmk, hown1, hg1⟩ := run_make_own (P := Tryz.prog) w0 w0.heap.size 22 59 i0 _ 14 Tryz.underlying22 hi0 hz0 hz1 .i64 .i64 (n + 1) (Nat.le_trans (Nat.mul_le_mul hz3 (show n + 1 ≤ 1001 by omega)) (by decide)) (by simp only [maxLen]; omega) (Nat.le_refl _)
  rw [show (((n + 1 : Nat)) : Int) = (n : Int) + 1 from by omega] at hmk
  rw [hs0] at hown1
  have HB1 : Hid (Below w0.heap.size w0 w1) := Lib.hid ((Below.refl _ _).grown hg1 (Nat.le_refl _) (by simp))
  have HR0 : Hid (Rd w0 w0.heap.size A L.flatten) := Lib.hid ((hr.below hb0).mono hb0.size)
  have HO1 := Lib.hid hown1
  have HL1 := Lib.hid (things_one hL)
  have HF1 := Lib.hid (fits_one hb)
  have HLL := Lib.hid hlL
  have HLB := Lib.hid hlb
  have HN := Lib.hid hn
  have HB0 := Lib.hid hb0
  have HS0 := Lib.hid hs0
  have hu := Tryz.underlying59
  have HSZ : Hid ((Tryz.prog.info? 59).map (·.size) = some bh.toArray.size) := Lib.hid (by rw [hi0]; simp [hz1, hlb])
  have HBY : Hid (∀ x, x ≤ 1001 → x * i0.bytes ≤ 140737488355328) := Lib.hid (fun x hx => Nat.le_trans (Nat.mul_le_mul hx hz3) (by decide))
  clear hn hL hb hr hk hlL hlb hown1 hg1 hb0 hs0
  rw [hw0] at hmk
  go_enter Tryz.func15, Tryz.ntmps15
  have HS1 : Hid (w.heap.size + 1 ≤ w1.heap.size) := Lib.hid (by have := HB1.out.size; have := HS0.out; omega)
  have HR1 : Hid (Rd w1 w1.heap.size A L.flatten) := Lib.hid ((HR0.out.below HB1.out).mono HB1.out.size)
  have HBX1 : Hid (w1.heap[w.heap.size]? = some (.cells bh.toArray 59 (0, 0))) := Lib.hid ((HB1.out.block _ (by have := HS0.out; omega)).trans HBX.out)
  go_wp2_with (first
    | (at_builtin; refine wpList_app rfl (.tmp 10) (.tmp 11) _ rfl (w.heap.size + 1) 59 i0 z0 14 i0.bytes Tryz.underlying22 hi0 hz0 hz1 rfl hz2 (by decide) _ 0 _ [] rfl HO1.out w1.heap.size A n c L.flatten rfl HLL.out HR1.out HL1.out (by simp only [maxLen]; omega) (HBY.out _ (by omega)) HS1.out ?_; intro A2 c2 w2 ho2 hb2; have HO2 := Lib.hid ho2; have HB2 := Lib.hid hb2; have HBX2 : Hid (w2.heap[w.heap.size]? = some (.cells bh.toArray 59 (0, 0))) := Lib.hid ((hb2.block _ (by omega)).trans HBX1.out); clear ho2 hb2)
    | (refine wpList_load_row rfl 59 (.tmp 3) rfl w.heap.size rfl _ _ _ _ HBX2.out hu rfl HSZ.out ?_)
    | (refine wpList_buildOne rfl _ 59 _ rfl w2.heap.size rfl _ rfl i0 z0 14 Tryz.underlying22 hi0 hz0 hz1 (by decide) (by decide) bh (by rfl) HLB.out ?_; have HO3 := Lib.hid (own_zero HO2.out bh); have HS2 := Lib.hid HB2.out.size)
    | (at_builtin; refine wpList_app rfl (.tmp 13) (.tmp 15) _ rfl (w.heap.size + 1) 59 i0 z0 14 i0.bytes Tryz.underlying22 hi0 hz0 hz1 rfl hz2 (by decide) _ n _ L.flatten rfl HO3.out (w2.heap.size + 1) (some ⟨w2.heap.size, 0, none⟩) 1 1 bh rfl (by rw [HLB.out]) (rd_one w2 bh 59) HF1.out (by simp only [maxLen]; omega) (HBY.out _ (by omega)) (by have := HS1.out; have := HS2.out; simp; omega) ?_; intro A3 c3 w4 ho4 hb4; have HN3 := Lib.hid (own_cap ho4); obtain ⟨g, rfl⟩ := own_some ho4 (by omega); have hcap := own_cap ho4; have HO4 := Lib.hid ho4; have HB4 := Lib.hid hb4; clear ho4 hb4)
    | fail)
  go_ret
  refine ⟨g, c3, by rw [HN.out]; rfl, by rw [← HN.out]; exact HN3.out, own_max HO4.out, ?_, Rd.of_own HO4.out, ?_⟩
  · have := own_base HO4.out g rfl; omega
  · exact HB0.out.trans (((HB1.out.mono (by have := HS0.out; omega)).trans (HB2.out.mono (by omega))).trans (((Below.refl w.heap.size w2).alloc (by have := HS1.out; have := HS2.out; omega) _).trans (HB4.out.mono (by omega))))

set_option maxRecDepth 100000 in
set_option maxHeartbeats 1600000 in
theorem lentLot (A : Option Addr) (n c : Nat) (L : List (List Value)) (bh : List Value) (w : World) (hn : n = L.length) (hn4 : n ≤ 1000) (hL : Things kLot L) (hb : Fits kLot bh) (hr : Rd w w.heap.size A L.flatten) :
    Calls Tryz.prog 16 #[.slice A n c, .agg bh.toArray] w (LentPost L bh w) := by
  obtain ⟨i0, z0, hi0, hz0, hz1, hz2, hz3⟩ := info_thing (P := Tryz.prog) (T := 62) (sz := 3) (by kernel_rfl)
  have hk : kLot.length = 3 := by decide
  have hlL : L.flatten.length = n * 3 := by rw [flat_length hL.len, hk, hn]
  have hlb : bh.length = 3 := by rw [hb.length, hk]
  obtain ⟨w0, hw0⟩ : ∃ w0, w0 = w.alloc (.cells bh.toArray 62) := ⟨_, rfl⟩
  have hb0 : Below w.heap.size w w0 := by rw [hw0]; exact (Below.refl _ _).alloc (Nat.le_refl _) _
  have hs0 : w0.heap.size = w.heap.size + 1 := by rw [hw0]; simp
  have HBX : Hid (w0.heap[w.heap.size]? = some (.cells bh.toArray 62 (0, 0))) := Lib.hid (by rw [hw0]; exact heap_alloc_new _ _)
  obtain ⟨w1, hmk, hown1, hg1⟩ := run_make_own (P := Tryz.prog) w0 w0.heap.size 23 62 i0 _ 3 Tryz.underlying23 hi0 hz0 hz1 .i64 .i64 (n + 1) (Nat.le_trans (Nat.mul_le_mul hz3 (show n + 1 ≤ 1001 by omega)) (by decide)) (by simp only [maxLen]; omega) (Nat.le_refl _)
  rw [show (((n + 1 : Nat)) : Int) = (n : Int) + 1 from by omega] at hmk
  rw [hs0] at hown1
  have HB1 : Hid (Below w0.heap.size w0 w1) := Lib.hid ((Below.refl _ _).grown hg1 (Nat.le_refl _) (by simp))
  have HR0 : Hid (Rd w0 w0.heap.size A L.flatten) := Lib.hid ((hr.below hb0).mono hb0.size)
  have HO1 := Lib.hid hown1
  have HL1 := Lib.hid (things_one hL)
  have HF1 := Lib.hid (fits_one hb)
  have HLL := Lib.hid hlL
  have HLB := Lib.hid hlb
  have HN := Lib.hid hn
  have HB0 := Lib.hid hb0
  have HS0 := Lib.hid hs0
  have hu := Tryz.underlying62
  have HSZ : Hid ((Tryz.prog.info? 62).map (·.size) = some bh.toArray.size) := Lib.hid (by rw [hi0]; simp [hz1, hlb])
  have HBY : Hid (∀ x, x ≤ 1001 → x * i0.bytes ≤ 140737488355328) := Lib.hid (fun x hx => Nat.le_trans (Nat.mul_le_mul hx hz3) (by decide))
  clear hn hL hb hr hk hlL hlb hown1 hg1 hb0 hs0
  rw [hw0] at hmk
  go_enter Tryz.func16, Tryz.ntmps16
  have HS1 : Hid (w.heap.size + 1 ≤ w1.heap.size) := Lib.hid (by have := HB1.out.size; have := HS0.out; omega)
  have HR1 : Hid (Rd w1 w1.heap.size A L.flatten) := Lib.hid ((HR0.out.below HB1.out).mono HB1.out.size)
  have HBX1 : Hid (w1.heap[w.heap.size]? = some (.cells bh.toArray 62 (0, 0))) := Lib.hid ((HB1.out.block _ (by have := HS0.out; omega)).trans HBX.out)
  go_wp2_with (first
    | (at_builtin; refine wpList_app rfl (.tmp 10) (.tmp 11) _ rfl (w.heap.size + 1) 62 i0 z0 3 i0.bytes Tryz.underlying23 hi0 hz0 hz1 rfl hz2 (by decide) _ 0 _ [] rfl HO1.out w1.heap.size A n c L.flatten rfl HLL.out HR1.out HL1.out (by simp only [maxLen]; omega) (HBY.out _ (by omega)) HS1.out ?_; intro A2 c2 w2 ho2 hb2; have HO2 := Lib.hid ho2; have HB2 := Lib.hid hb2; have HBX2 : Hid (w2.heap[w.heap.size]? = some (.cells bh.toArray 62 (0, 0))) := Lib.hid ((hb2.block _ (by omega)).trans HBX1.out); clear ho2 hb2)
    | (refine wpList_load_row rfl 62 (.tmp 3) rfl w.heap.size rfl _ _ _ _ HBX2.out hu rfl HSZ.out ?_)
    | (refine wpList_buildOne rfl _ 62 _ rfl w2.heap.size rfl _ rfl i0 z0 3 Tryz.underlying23 hi0 hz0 hz1 (by decide) (by decide) bh (by rfl) HLB.out ?_; have HO3 := Lib.hid (own_zero HO2.out bh); have HS2 := Lib.hid HB2.out.size)
    | (at_builtin; refine wpList_app rfl (.tmp 13) (.tmp 15) _ rfl (w.heap.size + 1) 62 i0 z0 3 i0.bytes Tryz.underlying23 hi0 hz0 hz1 rfl hz2 (by decide) _ n _ L.flatten rfl HO3.out (w2.heap.size + 1) (some ⟨w2.heap.size, 0, none⟩) 1 1 bh rfl (by rw [HLB.out]) (rd_one w2 bh 62) HF1.out (by simp only [maxLen]; omega) (HBY.out _ (by omega)) (by have := HS1.out; have := HS2.out; simp; omega) ?_; intro A3 c3 w4 ho4 hb4; have HN3 := Lib.hid (own_cap ho4); obtain ⟨g, rfl⟩ := own_some ho4 (by omega); have hcap := own_cap ho4; have HO4 := Lib.hid ho4; have HB4 := Lib.hid hb4; clear ho4 hb4)
    | fail)
  go_ret
  refine ⟨g, c3, by rw [HN.out]; rfl, by rw [← HN.out]; exact HN3.out, own_max HO4.out, ?_, Rd.of_own HO4.out, ?_⟩
  · have := own_base HO4.out g rfl; omega
  · exact HB0.out.trans (((HB1.out.mono (by have := HS0.out; omega)).trans (HB2.out.mono (by omega))).trans (((Below.refl w.heap.size w2).alloc (by have := HS1.out; have := HS2.out; omega) _).trans (HB4.out.mono (by omega))))

set_option maxRecDepth 100000 in
set_option maxHeartbeats 1600000 in
theorem lentZone (A : Option Addr) (n c : Nat) (L : List (List Value)) (bh : List Value) (w : World) (hn : n = L.length) (hn4 : n ≤ 1000) (hL : Things kZone L) (hb : Fits kZone bh) (hr : Rd w w.heap.size A L.flatten) :
    Calls Tryz.prog 17 #[.slice A n c, .agg bh.toArray] w (LentPost L bh w) := by
  obtain ⟨i0, z0, hi0, hz0, hz1, hz2, hz3⟩ := info_thing (P := Tryz.prog) (T := 65) (sz := 2) (by kernel_rfl)
  have hk : kZone.length = 2 := by decide
  have hlL : L.flatten.length = n * 2 := by rw [flat_length hL.len, hk, hn]
  have hlb : bh.length = 2 := by rw [hb.length, hk]
  obtain ⟨w0, hw0⟩ : ∃ w0, w0 = w.alloc (.cells bh.toArray 65) := ⟨_, rfl⟩
  have hb0 : Below w.heap.size w w0 := by rw [hw0]; exact (Below.refl _ _).alloc (Nat.le_refl _) _
  have hs0 : w0.heap.size = w.heap.size + 1 := by rw [hw0]; simp
  have HBX : Hid (w0.heap[w.heap.size]? = some (.cells bh.toArray 65 (0, 0))) := Lib.hid (by rw [hw0]; exact heap_alloc_new _ _)
  obtain ⟨w1, hmk, hown1, hg1⟩ := run_make_own (P := Tryz.prog) w0 w0.heap.size 24 65 i0 _ 2 Tryz.underlying24 hi0 hz0 hz1 .i64 .i64 (n + 1) (Nat.le_trans (Nat.mul_le_mul hz3 (show n + 1 ≤ 1001 by omega)) (by decide)) (by simp only [maxLen]; omega) (Nat.le_refl _)
  rw [show (((n + 1 : Nat)) : Int) = (n : Int) + 1 from by omega] at hmk
  rw [hs0] at hown1
  have HB1 : Hid (Below w0.heap.size w0 w1) := Lib.hid ((Below.refl _ _).grown hg1 (Nat.le_refl _) (by simp))
  have HR0 : Hid (Rd w0 w0.heap.size A L.flatten) := Lib.hid ((hr.below hb0).mono hb0.size)
  have HO1 := Lib.hid hown1
  have HL1 := Lib.hid (things_one hL)
  have HF1 := Lib.hid (fits_one hb)
  have HLL := Lib.hid hlL
  have HLB := Lib.hid hlb
  have HN := Lib.hid hn
  have HB0 := Lib.hid hb0
  have HS0 := Lib.hid hs0
  have hu := Tryz.underlying65
  have HSZ : Hid ((Tryz.prog.info? 65).map (·.size) = some bh.toArray.size) := Lib.hid (by rw [hi0]; simp [hz1, hlb])
  have HBY : Hid (∀ x, x ≤ 1001 → x * i0.bytes ≤ 140737488355328) := Lib.hid (fun x hx => Nat.le_trans (Nat.mul_le_mul hx hz3) (by decide))
  clear hn hL hb hr hk hlL hlb hown1 hg1 hb0 hs0
  rw [hw0] at hmk
  go_enter Tryz.func17, Tryz.ntmps17
  have HS1 : Hid (w.heap.size + 1 ≤ w1.heap.size) := Lib.hid (by have := HB1.out.size; have := HS0.out; omega)
  have HR1 : Hid (Rd w1 w1.heap.size A L.flatten) := Lib.hid ((HR0.out.below HB1.out).mono HB1.out.size)
  have HBX1 : Hid (w1.heap[w.heap.size]? = some (.cells bh.toArray 65 (0, 0))) := Lib.hid ((HB1.out.block _ (by have := HS0.out; omega)).trans HBX.out)
  go_wp2_with (first
    | (at_builtin; refine wpList_app rfl (.tmp 10) (.tmp 11) _ rfl (w.heap.size + 1) 65 i0 z0 2 i0.bytes Tryz.underlying24 hi0 hz0 hz1 rfl hz2 (by decide) _ 0 _ [] rfl HO1.out w1.heap.size A n c L.flatten rfl HLL.out HR1.out HL1.out (by simp only [maxLen]; omega) (HBY.out _ (by omega)) HS1.out ?_; intro A2 c2 w2 ho2 hb2; have HO2 := Lib.hid ho2; have HB2 := Lib.hid hb2; have HBX2 : Hid (w2.heap[w.heap.size]? = some (.cells bh.toArray 65 (0, 0))) := Lib.hid ((hb2.block _ (by omega)).trans HBX1.out); clear ho2 hb2)
    | (refine wpList_load_row rfl 65 (.tmp 3) rfl w.heap.size rfl _ _ _ _ HBX2.out hu rfl HSZ.out ?_)
    | (refine wpList_buildOne rfl _ 65 _ rfl w2.heap.size rfl _ rfl i0 z0 2 Tryz.underlying24 hi0 hz0 hz1 (by decide) (by decide) bh (by rfl) HLB.out ?_; have HO3 := Lib.hid (own_zero HO2.out bh); have HS2 := Lib.hid HB2.out.size)
    | (at_builtin; refine wpList_app rfl (.tmp 13) (.tmp 15) _ rfl (w.heap.size + 1) 65 i0 z0 2 i0.bytes Tryz.underlying24 hi0 hz0 hz1 rfl hz2 (by decide) _ n _ L.flatten rfl HO3.out (w2.heap.size + 1) (some ⟨w2.heap.size, 0, none⟩) 1 1 bh rfl (by rw [HLB.out]) (rd_one w2 bh 65) HF1.out (by simp only [maxLen]; omega) (HBY.out _ (by omega)) (by have := HS1.out; have := HS2.out; simp; omega) ?_; intro A3 c3 w4 ho4 hb4; have HN3 := Lib.hid (own_cap ho4); obtain ⟨g, rfl⟩ := own_some ho4 (by omega); have hcap := own_cap ho4; have HO4 := Lib.hid ho4; have HB4 := Lib.hid hb4; clear ho4 hb4)
    | fail)
  go_ret
  refine ⟨g, c3, by rw [HN.out]; rfl, by rw [← HN.out]; exact HN3.out, own_max HO4.out, ?_, Rd.of_own HO4.out, ?_⟩
  · have := own_base HO4.out g rfl; omega
  · exact HB0.out.trans (((HB1.out.mono (by have := HS0.out; omega)).trans (HB2.out.mono (by omega))).trans (((Below.refl w.heap.size w2).alloc (by have := HS1.out; have := HS2.out; omega) _).trans (HB4.out.mono (by omega))))

set_option maxRecDepth 100000 in
set_option maxHeartbeats 1600000 in
theorem lentBin (A : Option Addr) (n c : Nat) (L : List (List Value)) (bh : List Value) (w : World) (hn : n = L.length) (hn4 : n ≤ 1000) (hL : Things kBin L) (hb : Fits kBin bh) (hr : Rd w w.heap.size A L.flatten) :
    Calls Tryz.prog 18 #[.slice A n c, .agg bh.toArray] w (LentPost L bh w) := by
  obtain ⟨i0, z0, hi0, hz0, hz1, hz2, hz3⟩ := info_thing (P := Tryz.prog) (T := 68) (sz := 8) (by kernel_rfl)
  have hk : kBin.length = 8 := by decide
  have hlL : L.flatten.length = n * 8 := by rw [flat_length hL.len, hk, hn]
  have hlb : bh.length = 8 := by rw [hb.length, hk]
  obtain ⟨w0, hw0⟩ : ∃ w0, w0 = w.alloc (.cells bh.toArray 68) := ⟨_, rfl⟩
  have hb0 : Below w.heap.size w w0 := by rw [hw0]; exact (Below.refl _ _).alloc (Nat.le_refl _) _
  have hs0 : w0.heap.size = w.heap.size + 1 := by rw [hw0]; simp
  have HBX : Hid (w0.heap[w.heap.size]? = some (.cells bh.toArray 68 (0, 0))) := Lib.hid (by rw [hw0]; exact heap_alloc_new _ _)
  obtain ⟨w1, hmk, hown1, hg1⟩ := run_make_own (P := Tryz.prog) w0 w0.heap.size 25 68 i0 _ 8 Tryz.underlying25 hi0 hz0 hz1 .i64 .i64 (n + 1) (Nat.le_trans (Nat.mul_le_mul hz3 (show n + 1 ≤ 1001 by omega)) (by decide)) (by simp only [maxLen]; omega) (Nat.le_refl _)
  rw [show (((n + 1 : Nat)) : Int) = (n : Int) + 1 from by omega] at hmk
  rw [hs0] at hown1
  have HB1 : Hid (Below w0.heap.size w0 w1) := Lib.hid ((Below.refl _ _).grown hg1 (Nat.le_refl _) (by simp))
  have HR0 : Hid (Rd w0 w0.heap.size A L.flatten) := Lib.hid ((hr.below hb0).mono hb0.size)
  have HO1 := Lib.hid hown1
  have HL1 := Lib.hid (things_one hL)
  have HF1 := Lib.hid (fits_one hb)
  have HLL := Lib.hid hlL
  have HLB := Lib.hid hlb
  have HN := Lib.hid hn
  have HB0 := Lib.hid hb0
  have HS0 := Lib.hid hs0
  have hu := Tryz.underlying68
  have HSZ : Hid ((Tryz.prog.info? 68).map (·.size) = some bh.toArray.size) := Lib.hid (by rw [hi0]; simp [hz1, hlb])
  have HBY : Hid (∀ x, x ≤ 1001 → x * i0.bytes ≤ 140737488355328) := Lib.hid (fun x hx => Nat.le_trans (Nat.mul_le_mul hx hz3) (by decide))
  clear hn hL hb hr hk hlL hlb hown1 hg1 hb0 hs0
  rw [hw0] at hmk
  go_enter Tryz.func18, Tryz.ntmps18
  have HS1 : Hid (w.heap.size + 1 ≤ w1.heap.size) := Lib.hid (by have := HB1.out.size; have := HS0.out; omega)
  have HR1 : Hid (Rd w1 w1.heap.size A L.flatten) := Lib.hid ((HR0.out.below HB1.out).mono HB1.out.size)
  have HBX1 : Hid (w1.heap[w.heap.size]? = some (.cells bh.toArray 68 (0, 0))) := Lib.hid ((HB1.out.block _ (by have := HS0.out; omega)).trans HBX.out)
  go_wp2_with (first
    | (at_builtin; refine wpList_app rfl (.tmp 10) (.tmp 11) _ rfl (w.heap.size + 1) 68 i0 z0 8 i0.bytes Tryz.underlying25 hi0 hz0 hz1 rfl hz2 (by decide) _ 0 _ [] rfl HO1.out w1.heap.size A n c L.flatten rfl HLL.out HR1.out HL1.out (by simp only [maxLen]; omega) (HBY.out _ (by omega)) HS1.out ?_; intro A2 c2 w2 ho2 hb2; have HO2 := Lib.hid ho2; have HB2 := Lib.hid hb2; have HBX2 : Hid (w2.heap[w.heap.size]? = some (.cells bh.toArray 68 (0, 0))) := Lib.hid ((hb2.block _ (by omega)).trans HBX1.out); clear ho2 hb2)
    | (refine wpList_load_row rfl 68 (.tmp 3) rfl w.heap.size rfl _ _ _ _ HBX2.out hu rfl HSZ.out ?_)
    | (refine wpList_buildOne rfl _ 68 _ rfl w2.heap.size rfl _ rfl i0 z0 8 Tryz.underlying25 hi0 hz0 hz1 (by decide) (by decide) bh (by rfl) HLB.out ?_; have HO3 := Lib.hid (own_zero HO2.out bh); have HS2 := Lib.hid HB2.out.size)
    | (at_builtin; refine wpList_app rfl (.tmp 13) (.tmp 15) _ rfl (w.heap.size + 1) 68 i0 z0 8 i0.bytes Tryz.underlying25 hi0 hz0 hz1 rfl hz2 (by decide) _ n _ L.flatten rfl HO3.out (w2.heap.size + 1) (some ⟨w2.heap.size, 0, none⟩) 1 1 bh rfl (by rw [HLB.out]) (rd_one w2 bh 68) HF1.out (by simp only [maxLen]; omega) (HBY.out _ (by omega)) (by have := HS1.out; have := HS2.out; simp; omega) ?_; intro A3 c3 w4 ho4 hb4; have HN3 := Lib.hid (own_cap ho4); obtain ⟨g, rfl⟩ := own_some ho4 (by omega); have hcap := own_cap ho4; have HO4 := Lib.hid ho4; have HB4 := Lib.hid hb4; clear ho4 hb4)
    | fail)
  go_ret
  refine ⟨g, c3, by rw [HN.out]; rfl, by rw [← HN.out]; exact HN3.out, own_max HO4.out, ?_, Rd.of_own HO4.out, ?_⟩
  · have := own_base HO4.out g rfl; omega
  · exact HB0.out.trans (((HB1.out.mono (by have := HS0.out; omega)).trans (HB2.out.mono (by omega))).trans (((Below.refl w.heap.size w2).alloc (by have := HS1.out; have := HS2.out; omega) _).trans (HB4.out.mono (by omega))))

set_option maxRecDepth 100000 in
set_option maxHeartbeats 1600000 in
theorem lentQuant (A : Option Addr) (n c : Nat) (L : List (List Value)) (bh : List Value) (w : World) (hn : n = L.length) (hn4 : n ≤ 1000) (hL : Things kQuant L) (hb : Fits kQuant bh) (hr : Rd w w.heap.size A L.flatten) :
    Calls Tryz.prog 19 #[.slice A n c, .agg bh.toArray] w (LentPost L bh w) := by
  obtain ⟨i0, z0, hi0, hz0, hz1, hz2, hz3⟩ := info_thing (P := Tryz.prog) (T := 73) (sz := 6) (by kernel_rfl)
  have hk : kQuant.length = 6 := by decide
  have hlL : L.flatten.length = n * 6 := by rw [flat_length hL.len, hk, hn]
  have hlb : bh.length = 6 := by rw [hb.length, hk]
  obtain ⟨w0, hw0⟩ : ∃ w0, w0 = w.alloc (.cells bh.toArray 73) := ⟨_, rfl⟩
  have hb0 : Below w.heap.size w w0 := by rw [hw0]; exact (Below.refl _ _).alloc (Nat.le_refl _) _
  have hs0 : w0.heap.size = w.heap.size + 1 := by rw [hw0]; simp
  have HBX : Hid (w0.heap[w.heap.size]? = some (.cells bh.toArray 73 (0, 0))) := Lib.hid (by rw [hw0]; exact heap_alloc_new _ _)
  obtain ⟨w1, hmk, hown1, hg1⟩ := run_make_own (P := Tryz.prog) w0 w0.heap.size 26 73 i0 _ 6 Tryz.underlying26 hi0 hz0 hz1 .i64 .i64 (n + 1) (Nat.le_trans (Nat.mul_le_mul hz3 (show n + 1 ≤ 1001 by omega)) (by decide)) (by simp only [maxLen]; omega) (Nat.le_refl _)
  rw [show (((n + 1 : Nat)) : Int) = (n : Int) + 1 from by omega] at hmk
  rw [hs0] at hown1
  have HB1 : Hid (Below w0.heap.size w0 w1) := Lib.hid ((Below.refl _ _).grown hg1 (Nat.le_refl _) (by simp))
  have HR0 : Hid (Rd w0 w0.heap.size A L.flatten) := Lib.hid ((hr.below hb0).mono hb0.size)
  have HO1 := Lib.hid hown1
  have HL1 := Lib.hid (things_one hL)
  have HF1 := Lib.hid (fits_one hb)
  have HLL := Lib.hid hlL
  have HLB := Lib.hid hlb
  have HN := Lib.hid hn
  have HB0 := Lib.hid hb0
  have HS0 := Lib.hid hs0
  have hu := Tryz.underlying73
  have HSZ : Hid ((Tryz.prog.info? 73).map (·.size) = some bh.toArray.size) := Lib.hid (by rw [hi0]; simp [hz1, hlb])
  have HBY : Hid (∀ x, x ≤ 1001 → x * i0.bytes ≤ 140737488355328) := Lib.hid (fun x hx => Nat.le_trans (Nat.mul_le_mul hx hz3) (by decide))
  clear hn hL hb hr hk hlL hlb hown1 hg1 hb0 hs0
  rw [hw0] at hmk
  go_enter Tryz.func19, Tryz.ntmps19
  have HS1 : Hid (w.heap.size + 1 ≤ w1.heap.size) := Lib.hid (by have := HB1.out.size; have := HS0.out; omega)
  have HR1 : Hid (Rd w1 w1.heap.size A L.flatten) := Lib.hid ((HR0.out.below HB1.out).mono HB1.out.size)
  have HBX1 : Hid (w1.heap[w.heap.size]? = some (.cells bh.toArray 73 (0, 0))) := Lib.hid ((HB1.out.block _ (by have := HS0.out; omega)).trans HBX.out)
  go_wp2_with (first
    | (at_builtin; refine wpList_app rfl (.tmp 10) (.tmp 11) _ rfl (w.heap.size + 1) 73 i0 z0 6 i0.bytes Tryz.underlying26 hi0 hz0 hz1 rfl hz2 (by decide) _ 0 _ [] rfl HO1.out w1.heap.size A n c L.flatten rfl HLL.out HR1.out HL1.out (by simp only [maxLen]; omega) (HBY.out _ (by omega)) HS1.out ?_; intro A2 c2 w2 ho2 hb2; have HO2 := Lib.hid ho2; have HB2 := Lib.hid hb2; have HBX2 : Hid (w2.heap[w.heap.size]? = some (.cells bh.toArray 73 (0, 0))) := Lib.hid ((hb2.block _ (by omega)).trans HBX1.out); clear ho2 hb2)
    | (refine wpList_load_row rfl 73 (.tmp 3) rfl w.heap.size rfl _ _ _ _ HBX2.out hu rfl HSZ.out ?_)
    | (refine wpList_buildOne rfl _ 73 _ rfl w2.heap.size rfl _ rfl i0 z0 6 Tryz.underlying26 hi0 hz0 hz1 (by decide) (by decide) bh (by rfl) HLB.out ?_; have HO3 := Lib.hid (own_zero HO2.out bh); have HS2 := Lib.hid HB2.out.size)
    | (at_builtin; refine wpList_app rfl (.tmp 13) (.tmp 15) _ rfl (w.heap.size + 1) 73 i0 z0 6 i0.bytes Tryz.underlying26 hi0 hz0 hz1 rfl hz2 (by decide) _ n _ L.flatten rfl HO3.out (w2.heap.size + 1) (some ⟨w2.heap.size, 0, none⟩) 1 1 bh rfl (by rw [HLB.out]) (rd_one w2 bh 73) HF1.out (by simp only [maxLen]; omega) (HBY.out _ (by omega)) (by have := HS1.out; have := HS2.out; simp; omega) ?_; intro A3 c3 w4 ho4 hb4; have HN3 := Lib.hid (own_cap ho4); obtain ⟨g, rfl⟩ := own_some ho4 (by omega); have hcap := own_cap ho4; have HO4 := Lib.hid ho4; have HB4 := Lib.hid hb4; clear ho4 hb4)
    | fail)
  go_ret
  refine ⟨g, c3, by rw [HN.out]; rfl, by rw [← HN.out]; exact HN3.out, own_max HO4.out, ?_, Rd.of_own HO4.out, ?_⟩
  · have := own_base HO4.out g rfl; omega
  · exact HB0.out.trans (((HB1.out.mono (by have := HS0.out; omega)).trans (HB2.out.mono (by omega))).trans (((Below.refl w.heap.size w2).alloc (by have := HS1.out; have := HS2.out; omega) _).trans (HB4.out.mono (by omega))))

set_option maxRecDepth 100000 in
set_option maxHeartbeats 1600000 in
theorem lentRule (A : Option Addr) (n c : Nat) (L : List (List Value)) (bh : List Value) (w : World) (hn : n = L.length) (hn4 : n ≤ 1000) (hL : Things kRule L) (hb : Fits kRule bh) (hr : Rd w w.heap.size A L.flatten) :
    Calls Tryz.prog 20 #[.slice A n c, .agg bh.toArray] w (LentPost L bh w) := by
  obtain ⟨i0, z0, hi0, hz0, hz1, hz2, hz3⟩ := info_thing (P := Tryz.prog) (T := 39) (sz := 3) (by kernel_rfl)
  have hk : kRule.length = 3 := by decide
  have hlL : L.flatten.length = n * 3 := by rw [flat_length hL.len, hk, hn]
  have hlb : bh.length = 3 := by rw [hb.length, hk]
  obtain ⟨w0, hw0⟩ : ∃ w0, w0 = w.alloc (.cells bh.toArray 39) := ⟨_, rfl⟩
  have hb0 : Below w.heap.size w w0 := by rw [hw0]; exact (Below.refl _ _).alloc (Nat.le_refl _) _
  have hs0 : w0.heap.size = w.heap.size + 1 := by rw [hw0]; simp
  have HBX : Hid (w0.heap[w.heap.size]? = some (.cells bh.toArray 39 (0, 0))) := Lib.hid (by rw [hw0]; exact heap_alloc_new _ _)
  obtain ⟨w1, hmk, hown1, hg1⟩ := run_make_own (P := Tryz.prog) w0 w0.heap.size 27 39 i0 _ 3 Tryz.underlying27 hi0 hz0 hz1 .i64 .i64 (n + 1) (Nat.le_trans (Nat.mul_le_mul hz3 (show n + 1 ≤ 1001 by omega)) (by decide)) (by simp only [maxLen]; omega) (Nat.le_refl _)
  rw [show (((n + 1 : Nat)) : Int) = (n : Int) + 1 from by omega] at hmk
  rw [hs0] at hown1
  have HB1 : Hid (Below w0.heap.size w0 w1) := Lib.hid ((Below.refl _ _).grown hg1 (Nat.le_refl _) (by simp))
  have HR0 : Hid (Rd w0 w0.heap.size A L.flatten) := Lib.hid ((hr.below hb0).mono hb0.size)
  have HO1 := Lib.hid hown1
  have HL1 := Lib.hid (things_one hL)
  have HF1 := Lib.hid (fits_one hb)
  have HLL := Lib.hid hlL
  have HLB := Lib.hid hlb
  have HN := Lib.hid hn
  have HB0 := Lib.hid hb0
  have HS0 := Lib.hid hs0
  have hu := Tryz.underlying39
  have HSZ : Hid ((Tryz.prog.info? 39).map (·.size) = some bh.toArray.size) := Lib.hid (by rw [hi0]; simp [hz1, hlb])
  have HBY : Hid (∀ x, x ≤ 1001 → x * i0.bytes ≤ 140737488355328) := Lib.hid (fun x hx => Nat.le_trans (Nat.mul_le_mul hx hz3) (by decide))
  clear hn hL hb hr hk hlL hlb hown1 hg1 hb0 hs0
  rw [hw0] at hmk
  go_enter Tryz.func20, Tryz.ntmps20
  have HS1 : Hid (w.heap.size + 1 ≤ w1.heap.size) := Lib.hid (by have := HB1.out.size; have := HS0.out; omega)
  have HR1 : Hid (Rd w1 w1.heap.size A L.flatten) := Lib.hid ((HR0.out.below HB1.out).mono HB1.out.size)
  have HBX1 : Hid (w1.heap[w.heap.size]? = some (.cells bh.toArray 39 (0, 0))) := Lib.hid ((HB1.out.block _ (by have := HS0.out; omega)).trans HBX.out)
  go_wp2_with (first
    | (at_builtin; refine wpList_app rfl (.tmp 10) (.tmp 11) _ rfl (w.heap.size + 1) 39 i0 z0 3 i0.bytes Tryz.underlying27 hi0 hz0 hz1 rfl hz2 (by decide) _ 0 _ [] rfl HO1.out w1.heap.size A n c L.flatten rfl HLL.out HR1.out HL1.out (by simp only [maxLen]; omega) (HBY.out _ (by omega)) HS1.out ?_; intro A2 c2 w2 ho2 hb2; have HO2 := Lib.hid ho2; have HB2 := Lib.hid hb2; have HBX2 : Hid (w2.heap[w.heap.size]? = some (.cells bh.toArray 39 (0, 0))) := Lib.hid ((hb2.block _ (by omega)).trans HBX1.out); clear ho2 hb2)
    | (refine wpList_load_row rfl 39 (.tmp 3) rfl w.heap.size rfl _ _ _ _ HBX2.out hu rfl HSZ.out ?_)
    | (refine wpList_buildOne rfl _ 39 _ rfl w2.heap.size rfl _ rfl i0 z0 3 Tryz.underlying27 hi0 hz0 hz1 (by decide) (by decide) bh (by rfl) HLB.out ?_; have HO3 := Lib.hid (own_zero HO2.out bh); have HS2 := Lib.hid HB2.out.size)
    | (at_builtin; refine wpList_app rfl (.tmp 13) (.tmp 15) _ rfl (w.heap.size + 1) 39 i0 z0 3 i0.bytes Tryz.underlying27 hi0 hz0 hz1 rfl hz2 (by decide) _ n _ L.flatten rfl HO3.out (w2.heap.size + 1) (some ⟨w2.heap.size, 0, none⟩) 1 1 bh rfl (by rw [HLB.out]) (rd_one w2 bh 39) HF1.out (by simp only [maxLen]; omega) (HBY.out _ (by omega)) (by have := HS1.out; have := HS2.out; simp; omega) ?_; intro A3 c3 w4 ho4 hb4; have HN3 := Lib.hid (own_cap ho4); obtain ⟨g, rfl⟩ := own_some ho4 (by omega); have hcap := own_cap ho4; have HO4 := Lib.hid ho4; have HB4 := Lib.hid hb4; clear ho4 hb4)
    | fail)
  go_ret
  refine ⟨g, c3, by rw [HN.out]; rfl, by rw [← HN.out]; exact HN3.out, own_max HO4.out, ?_, Rd.of_own HO4.out, ?_⟩
  · have := own_base HO4.out g rfl; omega
  · exact HB0.out.trans (((HB1.out.mono (by have := HS0.out; omega)).trans (HB2.out.mono (by omega))).trans (((Below.refl w.heap.size w2).alloc (by have := HS1.out; have := HS2.out; omega) _).trans (HB4.out.mono (by omega))))

set_option maxRecDepth 100000 in
set_option maxHeartbeats 1600000 in
theorem lentNotice (A : Option Addr) (n c : Nat) (L : List (List Value)) (bh : List Value) (w : World) (hn : n = L.length) (hn4 : n ≤ 1000) (hL : Things kNotice L) (hb : Fits kNotice bh) (hr : Rd w w.heap.size A L.flatten) :
    Calls Tryz.prog 21 #[.slice A n c, .agg bh.toArray] w (LentPost L bh w) := by
  obtain ⟨i0, z0, hi0, hz0, hz1, hz2, hz3⟩ := info_thing (P := Tryz.prog) (T := 80) (sz := 51) (by kernel_rfl)
  have hk : kNotice.length = 51 := by decide
  have hlL : L.flatten.length = n * 51 := by rw [flat_length hL.len, hk, hn]
  have hlb : bh.length = 51 := by rw [hb.length, hk]
  obtain ⟨w0, hw0⟩ : ∃ w0, w0 = w.alloc (.cells bh.toArray 80) := ⟨_, rfl⟩
  have hb0 : Below w.heap.size w w0 := by rw [hw0]; exact (Below.refl _ _).alloc (Nat.le_refl _) _
  have hs0 : w0.heap.size = w.heap.size + 1 := by rw [hw0]; simp
  have HBX : Hid (w0.heap[w.heap.size]? = some (.cells bh.toArray 80 (0, 0))) := Lib.hid (by rw [hw0]; exact heap_alloc_new _ _)
  obtain ⟨w1, hmk, hown1, hg1⟩ := run_make_own (P := Tryz.prog) w0 w0.heap.size 28 80 i0 _ 51 Tryz.underlying28 hi0 hz0 hz1 .i64 .i64 (n + 1) (Nat.le_trans (Nat.mul_le_mul hz3 (show n + 1 ≤ 1001 by omega)) (by decide)) (by simp only [maxLen]; omega) (Nat.le_refl _)
  rw [show (((n + 1 : Nat)) : Int) = (n : Int) + 1 from by omega] at hmk
  rw [hs0] at hown1
  have HB1 : Hid (Below w0.heap.size w0 w1) := Lib.hid ((Below.refl _ _).grown hg1 (Nat.le_refl _) (by simp))
  have HR0 : Hid (Rd w0 w0.heap.size A L.flatten) := Lib.hid ((hr.below hb0).mono hb0.size)
  have HO1 := Lib.hid hown1
  have HL1 := Lib.hid (things_one hL)
  have HF1 := Lib.hid (fits_one hb)
  have HLL := Lib.hid hlL
  have HLB := Lib.hid hlb
  have HN := Lib.hid hn
  have HB0 := Lib.hid hb0
  have HS0 := Lib.hid hs0
  have hu := Tryz.underlying80
  have HSZ : Hid ((Tryz.prog.info? 80).map (·.size) = some bh.toArray.size) := Lib.hid (by rw [hi0]; simp [hz1, hlb])
  have HBY : Hid (∀ x, x ≤ 1001 → x * i0.bytes ≤ 140737488355328) := Lib.hid (fun x hx => Nat.le_trans (Nat.mul_le_mul hx hz3) (by decide))
  clear hn hL hb hr hk hlL hlb hown1 hg1 hb0 hs0
  rw [hw0] at hmk
  go_enter Tryz.func21, Tryz.ntmps21
  have HS1 : Hid (w.heap.size + 1 ≤ w1.heap.size) := Lib.hid (by have := HB1.out.size; have := HS0.out; omega)
  have HR1 : Hid (Rd w1 w1.heap.size A L.flatten) := Lib.hid ((HR0.out.below HB1.out).mono HB1.out.size)
  have HBX1 : Hid (w1.heap[w.heap.size]? = some (.cells bh.toArray 80 (0, 0))) := Lib.hid ((HB1.out.block _ (by have := HS0.out; omega)).trans HBX.out)
  go_wp2_with (first
    | (at_builtin; refine wpList_app rfl (.tmp 10) (.tmp 11) _ rfl (w.heap.size + 1) 80 i0 z0 51 i0.bytes Tryz.underlying28 hi0 hz0 hz1 rfl hz2 (by decide) _ 0 _ [] rfl HO1.out w1.heap.size A n c L.flatten rfl HLL.out HR1.out HL1.out (by simp only [maxLen]; omega) (HBY.out _ (by omega)) HS1.out ?_; intro A2 c2 w2 ho2 hb2; have HO2 := Lib.hid ho2; have HB2 := Lib.hid hb2; have HBX2 : Hid (w2.heap[w.heap.size]? = some (.cells bh.toArray 80 (0, 0))) := Lib.hid ((hb2.block _ (by omega)).trans HBX1.out); clear ho2 hb2)
    | (refine wpList_load_row rfl 80 (.tmp 3) rfl w.heap.size rfl _ _ _ _ HBX2.out hu rfl HSZ.out ?_)
    | (refine wpList_buildOne rfl _ 80 _ rfl w2.heap.size rfl _ rfl i0 z0 51 Tryz.underlying28 hi0 hz0 hz1 (by decide) (by decide) bh (by rfl) HLB.out ?_; have HO3 := Lib.hid (own_zero HO2.out bh); have HS2 := Lib.hid HB2.out.size)
    | (at_builtin; refine wpList_app rfl (.tmp 13) (.tmp 15) _ rfl (w.heap.size + 1) 80 i0 z0 51 i0.bytes Tryz.underlying28 hi0 hz0 hz1 rfl hz2 (by decide) _ n _ L.flatten rfl HO3.out (w2.heap.size + 1) (some ⟨w2.heap.size, 0, none⟩) 1 1 bh rfl (by rw [HLB.out]) (rd_one w2 bh 80) HF1.out (by simp only [maxLen]; omega) (HBY.out _ (by omega)) (by have := HS1.out; have := HS2.out; simp; omega) ?_; intro A3 c3 w4 ho4 hb4; have HN3 := Lib.hid (own_cap ho4); obtain ⟨g, rfl⟩ := own_some ho4 (by omega); have hcap := own_cap ho4; have HO4 := Lib.hid ho4; have HB4 := Lib.hid hb4; clear ho4 hb4)
    | fail)
  go_ret
  refine ⟨g, c3, by rw [HN.out]; rfl, by rw [← HN.out]; exact HN3.out, own_max HO4.out, ?_, Rd.of_own HO4.out, ?_⟩
  · have := own_base HO4.out g rfl; omega
  · exact HB0.out.trans (((HB1.out.mono (by have := HS0.out; omega)).trans (HB2.out.mono (by omega))).trans (((Below.refl w.heap.size w2).alloc (by have := HS1.out; have := HS2.out; omega) _).trans (HB4.out.mono (by omega))))

set_option maxRecDepth 100000 in
set_option maxHeartbeats 1600000 in
theorem lentOrder (A : Option Addr) (n c : Nat) (L : List (List Value)) (bh : List Value) (w : World) (hn : n = L.length) (hn4 : n ≤ 1000) (hL : Things kOrder L) (hb : Fits kOrder bh) (hr : Rd w w.heap.size A L.flatten) :
    Calls Tryz.prog 22 #[.slice A n c, .agg bh.toArray] w (LentPost L bh w) := by
  obtain ⟨i0, z0, hi0, hz0, hz1, hz2, hz3⟩ := info_thing (P := Tryz.prog) (T := 83) (sz := 50) (by kernel_rfl)
  have hk : kOrder.length = 50 := by decide
  have hlL : L.flatten.length = n * 50 := by rw [flat_length hL.len, hk, hn]
  have hlb : bh.length = 50 := by rw [hb.length, hk]
  obtain ⟨w0, hw0⟩ : ∃ w0, w0 = w.alloc (.cells bh.toArray 83) := ⟨_, rfl⟩
  have hb0 : Below w.heap.size w w0 := by rw [hw0]; exact (Below.refl _ _).alloc (Nat.le_refl _) _
  have hs0 : w0.heap.size = w.heap.size + 1 := by rw [hw0]; simp
  have HBX : Hid (w0.heap[w.heap.size]? = some (.cells bh.toArray 83 (0, 0))) := Lib.hid (by rw [hw0]; exact heap_alloc_new _ _)
  obtain ⟨w1, hmk, hown1, hg1⟩ := run_make_own (P := Tryz.prog) w0 w0.heap.size 29 83 i0 _ 50 Tryz.underlying29 hi0 hz0 hz1 .i64 .i64 (n + 1) (Nat.le_trans (Nat.mul_le_mul hz3 (show n + 1 ≤ 1001 by omega)) (by decide)) (by simp only [maxLen]; omega) (Nat.le_refl _)
  rw [show (((n + 1 : Nat)) : Int) = (n : Int) + 1 from by omega] at hmk
  rw [hs0] at hown1
  have HB1 : Hid (Below w0.heap.size w0 w1) := Lib.hid ((Below.refl _ _).grown hg1 (Nat.le_refl _) (by simp))
  have HR0 : Hid (Rd w0 w0.heap.size A L.flatten) := Lib.hid ((hr.below hb0).mono hb0.size)
  have HO1 := Lib.hid hown1
  have HL1 := Lib.hid (things_one hL)
  have HF1 := Lib.hid (fits_one hb)
  have HLL := Lib.hid hlL
  have HLB := Lib.hid hlb
  have HN := Lib.hid hn
  have HB0 := Lib.hid hb0
  have HS0 := Lib.hid hs0
  have hu := Tryz.underlying83
  have HSZ : Hid ((Tryz.prog.info? 83).map (·.size) = some bh.toArray.size) := Lib.hid (by rw [hi0]; simp [hz1, hlb])
  have HBY : Hid (∀ x, x ≤ 1001 → x * i0.bytes ≤ 140737488355328) := Lib.hid (fun x hx => Nat.le_trans (Nat.mul_le_mul hx hz3) (by decide))
  clear hn hL hb hr hk hlL hlb hown1 hg1 hb0 hs0
  rw [hw0] at hmk
  go_enter Tryz.func22, Tryz.ntmps22
  have HS1 : Hid (w.heap.size + 1 ≤ w1.heap.size) := Lib.hid (by have := HB1.out.size; have := HS0.out; omega)
  have HR1 : Hid (Rd w1 w1.heap.size A L.flatten) := Lib.hid ((HR0.out.below HB1.out).mono HB1.out.size)
  have HBX1 : Hid (w1.heap[w.heap.size]? = some (.cells bh.toArray 83 (0, 0))) := Lib.hid ((HB1.out.block _ (by have := HS0.out; omega)).trans HBX.out)
  go_wp2_with (first
    | (at_builtin; refine wpList_app rfl (.tmp 10) (.tmp 11) _ rfl (w.heap.size + 1) 83 i0 z0 50 i0.bytes Tryz.underlying29 hi0 hz0 hz1 rfl hz2 (by decide) _ 0 _ [] rfl HO1.out w1.heap.size A n c L.flatten rfl HLL.out HR1.out HL1.out (by simp only [maxLen]; omega) (HBY.out _ (by omega)) HS1.out ?_; intro A2 c2 w2 ho2 hb2; have HO2 := Lib.hid ho2; have HB2 := Lib.hid hb2; have HBX2 : Hid (w2.heap[w.heap.size]? = some (.cells bh.toArray 83 (0, 0))) := Lib.hid ((hb2.block _ (by omega)).trans HBX1.out); clear ho2 hb2)
    | (refine wpList_load_row rfl 83 (.tmp 3) rfl w.heap.size rfl _ _ _ _ HBX2.out hu rfl HSZ.out ?_)
    | (refine wpList_buildOne rfl _ 83 _ rfl w2.heap.size rfl _ rfl i0 z0 50 Tryz.underlying29 hi0 hz0 hz1 (by decide) (by decide) bh (by rfl) HLB.out ?_; have HO3 := Lib.hid (own_zero HO2.out bh); have HS2 := Lib.hid HB2.out.size)
    | (at_builtin; refine wpList_app rfl (.tmp 13) (.tmp 15) _ rfl (w.heap.size + 1) 83 i0 z0 50 i0.bytes Tryz.underlying29 hi0 hz0 hz1 rfl hz2 (by decide) _ n _ L.flatten rfl HO3.out (w2.heap.size + 1) (some ⟨w2.heap.size, 0, none⟩) 1 1 bh rfl (by rw [HLB.out]) (rd_one w2 bh 83) HF1.out (by simp only [maxLen]; omega) (HBY.out _ (by omega)) (by have := HS1.out; have := HS2.out; simp; omega) ?_; intro A3 c3 w4 ho4 hb4; have HN3 := Lib.hid (own_cap ho4); obtain ⟨g, rfl⟩ := own_some ho4 (by omega); have hcap := own_cap ho4; have HO4 := Lib.hid ho4; have HB4 := Lib.hid hb4; clear ho4 hb4)
    | fail)
  go_ret
  refine ⟨g, c3, by rw [HN.out]; rfl, by rw [← HN.out]; exact HN3.out, own_max HO4.out, ?_, Rd.of_own HO4.out, ?_⟩
  · have := own_base HO4.out g rfl; omega
  · exact HB0.out.trans (((HB1.out.mono (by have := HS0.out; omega)).trans (HB2.out.mono (by omega))).trans (((Below.refl w.heap.size w2).alloc (by have := HS1.out; have := HS2.out; omega) _).trans (HB4.out.mono (by omega))))

set_option maxRecDepth 100000 in
set_option maxHeartbeats 1600000 in
theorem lentClaim (A : Option Addr) (n c : Nat) (L : List (List Value)) (bh : List Value) (w : World) (hn : n = L.length) (hn4 : n ≤ 1000) (hL : Things kClaim L) (hb : Fits kClaim bh) (hr : Rd w w.heap.size A L.flatten) :
    Calls Tryz.prog 23 #[.slice A n c, .agg bh.toArray] w (LentPost L bh w) := by
  obtain ⟨i0, z0, hi0, hz0, hz1, hz2, hz3⟩ := info_thing (P := Tryz.prog) (T := 86) (sz := 8) (by kernel_rfl)
  have hk : kClaim.length = 8 := by decide
  have hlL : L.flatten.length = n * 8 := by rw [flat_length hL.len, hk, hn]
  have hlb : bh.length = 8 := by rw [hb.length, hk]
  obtain ⟨w0, hw0⟩ : ∃ w0, w0 = w.alloc (.cells bh.toArray 86) := ⟨_, rfl⟩
  have hb0 : Below w.heap.size w w0 := by rw [hw0]; exact (Below.refl _ _).alloc (Nat.le_refl _) _
  have hs0 : w0.heap.size = w.heap.size + 1 := by rw [hw0]; simp
  have HBX : Hid (w0.heap[w.heap.size]? = some (.cells bh.toArray 86 (0, 0))) := Lib.hid (by rw [hw0]; exact heap_alloc_new _ _)
  obtain ⟨w1, hmk, hown1, hg1⟩ := run_make_own (P := Tryz.prog) w0 w0.heap.size 30 86 i0 _ 8 Tryz.underlying30 hi0 hz0 hz1 .i64 .i64 (n + 1) (Nat.le_trans (Nat.mul_le_mul hz3 (show n + 1 ≤ 1001 by omega)) (by decide)) (by simp only [maxLen]; omega) (Nat.le_refl _)
  rw [show (((n + 1 : Nat)) : Int) = (n : Int) + 1 from by omega] at hmk
  rw [hs0] at hown1
  have HB1 : Hid (Below w0.heap.size w0 w1) := Lib.hid ((Below.refl _ _).grown hg1 (Nat.le_refl _) (by simp))
  have HR0 : Hid (Rd w0 w0.heap.size A L.flatten) := Lib.hid ((hr.below hb0).mono hb0.size)
  have HO1 := Lib.hid hown1
  have HL1 := Lib.hid (things_one hL)
  have HF1 := Lib.hid (fits_one hb)
  have HLL := Lib.hid hlL
  have HLB := Lib.hid hlb
  have HN := Lib.hid hn
  have HB0 := Lib.hid hb0
  have HS0 := Lib.hid hs0
  have hu := Tryz.underlying86
  have HSZ : Hid ((Tryz.prog.info? 86).map (·.size) = some bh.toArray.size) := Lib.hid (by rw [hi0]; simp [hz1, hlb])
  have HBY : Hid (∀ x, x ≤ 1001 → x * i0.bytes ≤ 140737488355328) := Lib.hid (fun x hx => Nat.le_trans (Nat.mul_le_mul hx hz3) (by decide))
  clear hn hL hb hr hk hlL hlb hown1 hg1 hb0 hs0
  rw [hw0] at hmk
  go_enter Tryz.func23, Tryz.ntmps23
  have HS1 : Hid (w.heap.size + 1 ≤ w1.heap.size) := Lib.hid (by have := HB1.out.size; have := HS0.out; omega)
  have HR1 : Hid (Rd w1 w1.heap.size A L.flatten) := Lib.hid ((HR0.out.below HB1.out).mono HB1.out.size)
  have HBX1 : Hid (w1.heap[w.heap.size]? = some (.cells bh.toArray 86 (0, 0))) := Lib.hid ((HB1.out.block _ (by have := HS0.out; omega)).trans HBX.out)
  go_wp2_with (first
    | (at_builtin; refine wpList_app rfl (.tmp 10) (.tmp 11) _ rfl (w.heap.size + 1) 86 i0 z0 8 i0.bytes Tryz.underlying30 hi0 hz0 hz1 rfl hz2 (by decide) _ 0 _ [] rfl HO1.out w1.heap.size A n c L.flatten rfl HLL.out HR1.out HL1.out (by simp only [maxLen]; omega) (HBY.out _ (by omega)) HS1.out ?_; intro A2 c2 w2 ho2 hb2; have HO2 := Lib.hid ho2; have HB2 := Lib.hid hb2; have HBX2 : Hid (w2.heap[w.heap.size]? = some (.cells bh.toArray 86 (0, 0))) := Lib.hid ((hb2.block _ (by omega)).trans HBX1.out); clear ho2 hb2)
    | (refine wpList_load_row rfl 86 (.tmp 3) rfl w.heap.size rfl _ _ _ _ HBX2.out hu rfl HSZ.out ?_)
    | (refine wpList_buildOne rfl _ 86 _ rfl w2.heap.size rfl _ rfl i0 z0 8 Tryz.underlying30 hi0 hz0 hz1 (by decide) (by decide) bh (by rfl) HLB.out ?_; have HO3 := Lib.hid (own_zero HO2.out bh); have HS2 := Lib.hid HB2.out.size)
    | (at_builtin; refine wpList_app rfl (.tmp 13) (.tmp 15) _ rfl (w.heap.size + 1) 86 i0 z0 8 i0.bytes Tryz.underlying30 hi0 hz0 hz1 rfl hz2 (by decide) _ n _ L.flatten rfl HO3.out (w2.heap.size + 1) (some ⟨w2.heap.size, 0, none⟩) 1 1 bh rfl (by rw [HLB.out]) (rd_one w2 bh 86) HF1.out (by simp only [maxLen]; omega) (HBY.out _ (by omega)) (by have := HS1.out; have := HS2.out; simp; omega) ?_; intro A3 c3 w4 ho4 hb4; have HN3 := Lib.hid (own_cap ho4); obtain ⟨g, rfl⟩ := own_some ho4 (by omega); have hcap := own_cap ho4; have HO4 := Lib.hid ho4; have HB4 := Lib.hid hb4; clear ho4 hb4)
    | fail)
  go_ret
  refine ⟨g, c3, by rw [HN.out]; rfl, by rw [← HN.out]; exact HN3.out, own_max HO4.out, ?_, Rd.of_own HO4.out, ?_⟩
  · have := own_base HO4.out g rfl; omega
  · exact HB0.out.trans (((HB1.out.mono (by have := HS0.out; omega)).trans (HB2.out.mono (by omega))).trans (((Below.refl w.heap.size w2).alloc (by have := HS1.out; have := HS2.out; omega) _).trans (HB4.out.mono (by omega))))

set_option maxRecDepth 100000 in
set_option maxHeartbeats 1600000 in
theorem lentTask (A : Option Addr) (n c : Nat) (L : List (List Value)) (bh : List Value) (w : World) (hn : n = L.length) (hn4 : n ≤ 1000) (hL : Things kTask L) (hb : Fits kTask bh) (hr : Rd w w.heap.size A L.flatten) :
    Calls Tryz.prog 24 #[.slice A n c, .agg bh.toArray] w (LentPost L bh w) := by
  obtain ⟨i0, z0, hi0, hz0, hz1, hz2, hz3⟩ := info_thing (P := Tryz.prog) (T := 89) (sz := 11) (by kernel_rfl)
  have hk : kTask.length = 11 := by decide
  have hlL : L.flatten.length = n * 11 := by rw [flat_length hL.len, hk, hn]
  have hlb : bh.length = 11 := by rw [hb.length, hk]
  obtain ⟨w0, hw0⟩ : ∃ w0, w0 = w.alloc (.cells bh.toArray 89) := ⟨_, rfl⟩
  have hb0 : Below w.heap.size w w0 := by rw [hw0]; exact (Below.refl _ _).alloc (Nat.le_refl _) _
  have hs0 : w0.heap.size = w.heap.size + 1 := by rw [hw0]; simp
  have HBX : Hid (w0.heap[w.heap.size]? = some (.cells bh.toArray 89 (0, 0))) := Lib.hid (by rw [hw0]; exact heap_alloc_new _ _)
  obtain ⟨w1, hmk, hown1, hg1⟩ := run_make_own (P := Tryz.prog) w0 w0.heap.size 31 89 i0 _ 11 Tryz.underlying31 hi0 hz0 hz1 .i64 .i64 (n + 1) (Nat.le_trans (Nat.mul_le_mul hz3 (show n + 1 ≤ 1001 by omega)) (by decide)) (by simp only [maxLen]; omega) (Nat.le_refl _)
  rw [show (((n + 1 : Nat)) : Int) = (n : Int) + 1 from by omega] at hmk
  rw [hs0] at hown1
  have HB1 : Hid (Below w0.heap.size w0 w1) := Lib.hid ((Below.refl _ _).grown hg1 (Nat.le_refl _) (by simp))
  have HR0 : Hid (Rd w0 w0.heap.size A L.flatten) := Lib.hid ((hr.below hb0).mono hb0.size)
  have HO1 := Lib.hid hown1
  have HL1 := Lib.hid (things_one hL)
  have HF1 := Lib.hid (fits_one hb)
  have HLL := Lib.hid hlL
  have HLB := Lib.hid hlb
  have HN := Lib.hid hn
  have HB0 := Lib.hid hb0
  have HS0 := Lib.hid hs0
  have hu := Tryz.underlying89
  have HSZ : Hid ((Tryz.prog.info? 89).map (·.size) = some bh.toArray.size) := Lib.hid (by rw [hi0]; simp [hz1, hlb])
  have HBY : Hid (∀ x, x ≤ 1001 → x * i0.bytes ≤ 140737488355328) := Lib.hid (fun x hx => Nat.le_trans (Nat.mul_le_mul hx hz3) (by decide))
  clear hn hL hb hr hk hlL hlb hown1 hg1 hb0 hs0
  rw [hw0] at hmk
  go_enter Tryz.func24, Tryz.ntmps24
  have HS1 : Hid (w.heap.size + 1 ≤ w1.heap.size) := Lib.hid (by have := HB1.out.size; have := HS0.out; omega)
  have HR1 : Hid (Rd w1 w1.heap.size A L.flatten) := Lib.hid ((HR0.out.below HB1.out).mono HB1.out.size)
  have HBX1 : Hid (w1.heap[w.heap.size]? = some (.cells bh.toArray 89 (0, 0))) := Lib.hid ((HB1.out.block _ (by have := HS0.out; omega)).trans HBX.out)
  go_wp2_with (first
    | (at_builtin; refine wpList_app rfl (.tmp 10) (.tmp 11) _ rfl (w.heap.size + 1) 89 i0 z0 11 i0.bytes Tryz.underlying31 hi0 hz0 hz1 rfl hz2 (by decide) _ 0 _ [] rfl HO1.out w1.heap.size A n c L.flatten rfl HLL.out HR1.out HL1.out (by simp only [maxLen]; omega) (HBY.out _ (by omega)) HS1.out ?_; intro A2 c2 w2 ho2 hb2; have HO2 := Lib.hid ho2; have HB2 := Lib.hid hb2; have HBX2 : Hid (w2.heap[w.heap.size]? = some (.cells bh.toArray 89 (0, 0))) := Lib.hid ((hb2.block _ (by omega)).trans HBX1.out); clear ho2 hb2)
    | (refine wpList_load_row rfl 89 (.tmp 3) rfl w.heap.size rfl _ _ _ _ HBX2.out hu rfl HSZ.out ?_)
    | (refine wpList_buildOne rfl _ 89 _ rfl w2.heap.size rfl _ rfl i0 z0 11 Tryz.underlying31 hi0 hz0 hz1 (by decide) (by decide) bh (by rfl) HLB.out ?_; have HO3 := Lib.hid (own_zero HO2.out bh); have HS2 := Lib.hid HB2.out.size)
    | (at_builtin; refine wpList_app rfl (.tmp 13) (.tmp 15) _ rfl (w.heap.size + 1) 89 i0 z0 11 i0.bytes Tryz.underlying31 hi0 hz0 hz1 rfl hz2 (by decide) _ n _ L.flatten rfl HO3.out (w2.heap.size + 1) (some ⟨w2.heap.size, 0, none⟩) 1 1 bh rfl (by rw [HLB.out]) (rd_one w2 bh 89) HF1.out (by simp only [maxLen]; omega) (HBY.out _ (by omega)) (by have := HS1.out; have := HS2.out; simp; omega) ?_; intro A3 c3 w4 ho4 hb4; have HN3 := Lib.hid (own_cap ho4); obtain ⟨g, rfl⟩ := own_some ho4 (by omega); have hcap := own_cap ho4; have HO4 := Lib.hid ho4; have HB4 := Lib.hid hb4; clear ho4 hb4)
    | fail)
  go_ret
  refine ⟨g, c3, by rw [HN.out]; rfl, by rw [← HN.out]; exact HN3.out, own_max HO4.out, ?_, Rd.of_own HO4.out, ?_⟩
  · have := own_base HO4.out g rfl; omega
  · exact HB0.out.trans (((HB1.out.mono (by have := HS0.out; omega)).trans (HB2.out.mono (by omega))).trans (((Below.refl w.heap.size w2).alloc (by have := HS1.out; have := HS2.out; omega) _).trans (HB4.out.mono (by omega))))

set_option maxRecDepth 100000 in
set_option maxHeartbeats 1600000 in
theorem lentParcel (A : Option Addr) (n c : Nat) (L : List (List Value)) (bh : List Value) (w : World) (hn : n = L.length) (hn4 : n ≤ 1000) (hL : Things kParcel L) (hb : Fits kParcel bh) (hr : Rd w w.heap.size A L.flatten) :
    Calls Tryz.prog 25 #[.slice A n c, .agg bh.toArray] w (LentPost L bh w) := by
  obtain ⟨i0, z0, hi0, hz0, hz1, hz2, hz3⟩ := info_thing (P := Tryz.prog) (T := 92) (sz := 2) (by kernel_rfl)
  have hk : kParcel.length = 2 := by decide
  have hlL : L.flatten.length = n * 2 := by rw [flat_length hL.len, hk, hn]
  have hlb : bh.length = 2 := by rw [hb.length, hk]
  obtain ⟨w0, hw0⟩ : ∃ w0, w0 = w.alloc (.cells bh.toArray 92) := ⟨_, rfl⟩
  have hb0 : Below w.heap.size w w0 := by rw [hw0]; exact (Below.refl _ _).alloc (Nat.le_refl _) _
  have hs0 : w0.heap.size = w.heap.size + 1 := by rw [hw0]; simp
  have HBX : Hid (w0.heap[w.heap.size]? = some (.cells bh.toArray 92 (0, 0))) := Lib.hid (by rw [hw0]; exact heap_alloc_new _ _)
  obtain ⟨w1, hmk, hown1, hg1⟩ := run_make_own (P := Tryz.prog) w0 w0.heap.size 32 92 i0 _ 2 Tryz.underlying32 hi0 hz0 hz1 .i64 .i64 (n + 1) (Nat.le_trans (Nat.mul_le_mul hz3 (show n + 1 ≤ 1001 by omega)) (by decide)) (by simp only [maxLen]; omega) (Nat.le_refl _)
  rw [show (((n + 1 : Nat)) : Int) = (n : Int) + 1 from by omega] at hmk
  rw [hs0] at hown1
  have HB1 : Hid (Below w0.heap.size w0 w1) := Lib.hid ((Below.refl _ _).grown hg1 (Nat.le_refl _) (by simp))
  have HR0 : Hid (Rd w0 w0.heap.size A L.flatten) := Lib.hid ((hr.below hb0).mono hb0.size)
  have HO1 := Lib.hid hown1
  have HL1 := Lib.hid (things_one hL)
  have HF1 := Lib.hid (fits_one hb)
  have HLL := Lib.hid hlL
  have HLB := Lib.hid hlb
  have HN := Lib.hid hn
  have HB0 := Lib.hid hb0
  have HS0 := Lib.hid hs0
  have hu := Tryz.underlying92
  have HSZ : Hid ((Tryz.prog.info? 92).map (·.size) = some bh.toArray.size) := Lib.hid (by rw [hi0]; simp [hz1, hlb])
  have HBY : Hid (∀ x, x ≤ 1001 → x * i0.bytes ≤ 140737488355328) := Lib.hid (fun x hx => Nat.le_trans (Nat.mul_le_mul hx hz3) (by decide))
  clear hn hL hb hr hk hlL hlb hown1 hg1 hb0 hs0
  rw [hw0] at hmk
  go_enter Tryz.func25, Tryz.ntmps25
  have HS1 : Hid (w.heap.size + 1 ≤ w1.heap.size) := Lib.hid (by have := HB1.out.size; have := HS0.out; omega)
  have HR1 : Hid (Rd w1 w1.heap.size A L.flatten) := Lib.hid ((HR0.out.below HB1.out).mono HB1.out.size)
  have HBX1 : Hid (w1.heap[w.heap.size]? = some (.cells bh.toArray 92 (0, 0))) := Lib.hid ((HB1.out.block _ (by have := HS0.out; omega)).trans HBX.out)
  go_wp2_with (first
    | (at_builtin; refine wpList_app rfl (.tmp 10) (.tmp 11) _ rfl (w.heap.size + 1) 92 i0 z0 2 i0.bytes Tryz.underlying32 hi0 hz0 hz1 rfl hz2 (by decide) _ 0 _ [] rfl HO1.out w1.heap.size A n c L.flatten rfl HLL.out HR1.out HL1.out (by simp only [maxLen]; omega) (HBY.out _ (by omega)) HS1.out ?_; intro A2 c2 w2 ho2 hb2; have HO2 := Lib.hid ho2; have HB2 := Lib.hid hb2; have HBX2 : Hid (w2.heap[w.heap.size]? = some (.cells bh.toArray 92 (0, 0))) := Lib.hid ((hb2.block _ (by omega)).trans HBX1.out); clear ho2 hb2)
    | (refine wpList_load_row rfl 92 (.tmp 3) rfl w.heap.size rfl _ _ _ _ HBX2.out hu rfl HSZ.out ?_)
    | (refine wpList_buildOne rfl _ 92 _ rfl w2.heap.size rfl _ rfl i0 z0 2 Tryz.underlying32 hi0 hz0 hz1 (by decide) (by decide) bh (by rfl) HLB.out ?_; have HO3 := Lib.hid (own_zero HO2.out bh); have HS2 := Lib.hid HB2.out.size)
    | (at_builtin; refine wpList_app rfl (.tmp 13) (.tmp 15) _ rfl (w.heap.size + 1) 92 i0 z0 2 i0.bytes Tryz.underlying32 hi0 hz0 hz1 rfl hz2 (by decide) _ n _ L.flatten rfl HO3.out (w2.heap.size + 1) (some ⟨w2.heap.size, 0, none⟩) 1 1 bh rfl (by rw [HLB.out]) (rd_one w2 bh 92) HF1.out (by simp only [maxLen]; omega) (HBY.out _ (by omega)) (by have := HS1.out; have := HS2.out; simp; omega) ?_; intro A3 c3 w4 ho4 hb4; have HN3 := Lib.hid (own_cap ho4); obtain ⟨g, rfl⟩ := own_some ho4 (by omega); have hcap := own_cap ho4; have HO4 := Lib.hid ho4; have HB4 := Lib.hid hb4; clear ho4 hb4)
    | fail)
  go_ret
  refine ⟨g, c3, by rw [HN.out]; rfl, by rw [← HN.out]; exact HN3.out, own_max HO4.out, ?_, Rd.of_own HO4.out, ?_⟩
  · have := own_base HO4.out g rfl; omega
  · exact HB0.out.trans (((HB1.out.mono (by have := HS0.out; omega)).trans (HB2.out.mono (by omega))).trans (((Below.refl w.heap.size w2).alloc (by have := HS1.out; have := HS2.out; omega) _).trans (HB4.out.mono (by omega))))

set_option maxRecDepth 100000 in
set_option maxHeartbeats 1600000 in
theorem lentSent (A : Option Addr) (n c : Nat) (L : List (List Value)) (bh : List Value) (w : World) (hn : n = L.length) (hn4 : n ≤ 1000) (hL : Things kSent L) (hb : Fits kSent bh) (hr : Rd w w.heap.size A L.flatten) :
    Calls Tryz.prog 26 #[.slice A n c, .agg bh.toArray] w (LentPost L bh w) := by
  obtain ⟨i0, z0, hi0, hz0, hz1, hz2, hz3⟩ := info_thing (P := Tryz.prog) (T := 95) (sz := 5) (by kernel_rfl)
  have hk : kSent.length = 5 := by decide
  have hlL : L.flatten.length = n * 5 := by rw [flat_length hL.len, hk, hn]
  have hlb : bh.length = 5 := by rw [hb.length, hk]
  obtain ⟨w0, hw0⟩ : ∃ w0, w0 = w.alloc (.cells bh.toArray 95) := ⟨_, rfl⟩
  have hb0 : Below w.heap.size w w0 := by rw [hw0]; exact (Below.refl _ _).alloc (Nat.le_refl _) _
  have hs0 : w0.heap.size = w.heap.size + 1 := by rw [hw0]; simp
  have HBX : Hid (w0.heap[w.heap.size]? = some (.cells bh.toArray 95 (0, 0))) := Lib.hid (by rw [hw0]; exact heap_alloc_new _ _)
  obtain ⟨w1, hmk, hown1, hg1⟩ := run_make_own (P := Tryz.prog) w0 w0.heap.size 33 95 i0 _ 5 Tryz.underlying33 hi0 hz0 hz1 .i64 .i64 (n + 1) (Nat.le_trans (Nat.mul_le_mul hz3 (show n + 1 ≤ 1001 by omega)) (by decide)) (by simp only [maxLen]; omega) (Nat.le_refl _)
  rw [show (((n + 1 : Nat)) : Int) = (n : Int) + 1 from by omega] at hmk
  rw [hs0] at hown1
  have HB1 : Hid (Below w0.heap.size w0 w1) := Lib.hid ((Below.refl _ _).grown hg1 (Nat.le_refl _) (by simp))
  have HR0 : Hid (Rd w0 w0.heap.size A L.flatten) := Lib.hid ((hr.below hb0).mono hb0.size)
  have HO1 := Lib.hid hown1
  have HL1 := Lib.hid (things_one hL)
  have HF1 := Lib.hid (fits_one hb)
  have HLL := Lib.hid hlL
  have HLB := Lib.hid hlb
  have HN := Lib.hid hn
  have HB0 := Lib.hid hb0
  have HS0 := Lib.hid hs0
  have hu := Tryz.underlying95
  have HSZ : Hid ((Tryz.prog.info? 95).map (·.size) = some bh.toArray.size) := Lib.hid (by rw [hi0]; simp [hz1, hlb])
  have HBY : Hid (∀ x, x ≤ 1001 → x * i0.bytes ≤ 140737488355328) := Lib.hid (fun x hx => Nat.le_trans (Nat.mul_le_mul hx hz3) (by decide))
  clear hn hL hb hr hk hlL hlb hown1 hg1 hb0 hs0
  rw [hw0] at hmk
  go_enter Tryz.func26, Tryz.ntmps26
  have HS1 : Hid (w.heap.size + 1 ≤ w1.heap.size) := Lib.hid (by have := HB1.out.size; have := HS0.out; omega)
  have HR1 : Hid (Rd w1 w1.heap.size A L.flatten) := Lib.hid ((HR0.out.below HB1.out).mono HB1.out.size)
  have HBX1 : Hid (w1.heap[w.heap.size]? = some (.cells bh.toArray 95 (0, 0))) := Lib.hid ((HB1.out.block _ (by have := HS0.out; omega)).trans HBX.out)
  go_wp2_with (first
    | (at_builtin; refine wpList_app rfl (.tmp 10) (.tmp 11) _ rfl (w.heap.size + 1) 95 i0 z0 5 i0.bytes Tryz.underlying33 hi0 hz0 hz1 rfl hz2 (by decide) _ 0 _ [] rfl HO1.out w1.heap.size A n c L.flatten rfl HLL.out HR1.out HL1.out (by simp only [maxLen]; omega) (HBY.out _ (by omega)) HS1.out ?_; intro A2 c2 w2 ho2 hb2; have HO2 := Lib.hid ho2; have HB2 := Lib.hid hb2; have HBX2 : Hid (w2.heap[w.heap.size]? = some (.cells bh.toArray 95 (0, 0))) := Lib.hid ((hb2.block _ (by omega)).trans HBX1.out); clear ho2 hb2)
    | (refine wpList_load_row rfl 95 (.tmp 3) rfl w.heap.size rfl _ _ _ _ HBX2.out hu rfl HSZ.out ?_)
    | (refine wpList_buildOne rfl _ 95 _ rfl w2.heap.size rfl _ rfl i0 z0 5 Tryz.underlying33 hi0 hz0 hz1 (by decide) (by decide) bh (by rfl) HLB.out ?_; have HO3 := Lib.hid (own_zero HO2.out bh); have HS2 := Lib.hid HB2.out.size)
    | (at_builtin; refine wpList_app rfl (.tmp 13) (.tmp 15) _ rfl (w.heap.size + 1) 95 i0 z0 5 i0.bytes Tryz.underlying33 hi0 hz0 hz1 rfl hz2 (by decide) _ n _ L.flatten rfl HO3.out (w2.heap.size + 1) (some ⟨w2.heap.size, 0, none⟩) 1 1 bh rfl (by rw [HLB.out]) (rd_one w2 bh 95) HF1.out (by simp only [maxLen]; omega) (HBY.out _ (by omega)) (by have := HS1.out; have := HS2.out; simp; omega) ?_; intro A3 c3 w4 ho4 hb4; have HN3 := Lib.hid (own_cap ho4); obtain ⟨g, rfl⟩ := own_some ho4 (by omega); have hcap := own_cap ho4; have HO4 := Lib.hid ho4; have HB4 := Lib.hid hb4; clear ho4 hb4)
    | fail)
  go_ret
  refine ⟨g, c3, by rw [HN.out]; rfl, by rw [← HN.out]; exact HN3.out, own_max HO4.out, ?_, Rd.of_own HO4.out, ?_⟩
  · have := own_base HO4.out g rfl; omega
  · exact HB0.out.trans (((HB1.out.mono (by have := HS0.out; omega)).trans (HB2.out.mono (by omega))).trans (((Below.refl w.heap.size w2).alloc (by have := HS1.out; have := HS2.out; omega) _).trans (HB4.out.mono (by omega))))

set_option maxRecDepth 100000 in
set_option maxHeartbeats 1600000 in
theorem lentCounted (A : Option Addr) (n c : Nat) (L : List (List Value)) (bh : List Value) (w : World) (hn : n = L.length) (hn4 : n ≤ 1000) (hL : Things kCounted L) (hb : Fits kCounted bh) (hr : Rd w w.heap.size A L.flatten) :
    Calls Tryz.prog 27 #[.slice A n c, .agg bh.toArray] w (LentPost L bh w) := by
  obtain ⟨i0, z0, hi0, hz0, hz1, hz2, hz3⟩ := info_thing (P := Tryz.prog) (T := 98) (sz := 5) (by kernel_rfl)
  have hk : kCounted.length = 5 := by decide
  have hlL : L.flatten.length = n * 5 := by rw [flat_length hL.len, hk, hn]
  have hlb : bh.length = 5 := by rw [hb.length, hk]
  obtain ⟨w0, hw0⟩ : ∃ w0, w0 = w.alloc (.cells bh.toArray 98) := ⟨_, rfl⟩
  have hb0 : Below w.heap.size w w0 := by rw [hw0]; exact (Below.refl _ _).alloc (Nat.le_refl _) _
  have hs0 : w0.heap.size = w.heap.size + 1 := by rw [hw0]; simp
  have HBX : Hid (w0.heap[w.heap.size]? = some (.cells bh.toArray 98 (0, 0))) := Lib.hid (by rw [hw0]; exact heap_alloc_new _ _)
  obtain ⟨w1, hmk, hown1, hg1⟩ := run_make_own (P := Tryz.prog) w0 w0.heap.size 34 98 i0 _ 5 Tryz.underlying34 hi0 hz0 hz1 .i64 .i64 (n + 1) (Nat.le_trans (Nat.mul_le_mul hz3 (show n + 1 ≤ 1001 by omega)) (by decide)) (by simp only [maxLen]; omega) (Nat.le_refl _)
  rw [show (((n + 1 : Nat)) : Int) = (n : Int) + 1 from by omega] at hmk
  rw [hs0] at hown1
  have HB1 : Hid (Below w0.heap.size w0 w1) := Lib.hid ((Below.refl _ _).grown hg1 (Nat.le_refl _) (by simp))
  have HR0 : Hid (Rd w0 w0.heap.size A L.flatten) := Lib.hid ((hr.below hb0).mono hb0.size)
  have HO1 := Lib.hid hown1
  have HL1 := Lib.hid (things_one hL)
  have HF1 := Lib.hid (fits_one hb)
  have HLL := Lib.hid hlL
  have HLB := Lib.hid hlb
  have HN := Lib.hid hn
  have HB0 := Lib.hid hb0
  have HS0 := Lib.hid hs0
  have hu := Tryz.underlying98
  have HSZ : Hid ((Tryz.prog.info? 98).map (·.size) = some bh.toArray.size) := Lib.hid (by rw [hi0]; simp [hz1, hlb])
  have HBY : Hid (∀ x, x ≤ 1001 → x * i0.bytes ≤ 140737488355328) := Lib.hid (fun x hx => Nat.le_trans (Nat.mul_le_mul hx hz3) (by decide))
  clear hn hL hb hr hk hlL hlb hown1 hg1 hb0 hs0
  rw [hw0] at hmk
  go_enter Tryz.func27, Tryz.ntmps27
  have HS1 : Hid (w.heap.size + 1 ≤ w1.heap.size) := Lib.hid (by have := HB1.out.size; have := HS0.out; omega)
  have HR1 : Hid (Rd w1 w1.heap.size A L.flatten) := Lib.hid ((HR0.out.below HB1.out).mono HB1.out.size)
  have HBX1 : Hid (w1.heap[w.heap.size]? = some (.cells bh.toArray 98 (0, 0))) := Lib.hid ((HB1.out.block _ (by have := HS0.out; omega)).trans HBX.out)
  go_wp2_with (first
    | (at_builtin; refine wpList_app rfl (.tmp 10) (.tmp 11) _ rfl (w.heap.size + 1) 98 i0 z0 5 i0.bytes Tryz.underlying34 hi0 hz0 hz1 rfl hz2 (by decide) _ 0 _ [] rfl HO1.out w1.heap.size A n c L.flatten rfl HLL.out HR1.out HL1.out (by simp only [maxLen]; omega) (HBY.out _ (by omega)) HS1.out ?_; intro A2 c2 w2 ho2 hb2; have HO2 := Lib.hid ho2; have HB2 := Lib.hid hb2; have HBX2 : Hid (w2.heap[w.heap.size]? = some (.cells bh.toArray 98 (0, 0))) := Lib.hid ((hb2.block _ (by omega)).trans HBX1.out); clear ho2 hb2)
    | (refine wpList_load_row rfl 98 (.tmp 3) rfl w.heap.size rfl _ _ _ _ HBX2.out hu rfl HSZ.out ?_)
    | (refine wpList_buildOne rfl _ 98 _ rfl w2.heap.size rfl _ rfl i0 z0 5 Tryz.underlying34 hi0 hz0 hz1 (by decide) (by decide) bh (by rfl) HLB.out ?_; have HO3 := Lib.hid (own_zero HO2.out bh); have HS2 := Lib.hid HB2.out.size)
    | (at_builtin; refine wpList_app rfl (.tmp 13) (.tmp 15) _ rfl (w.heap.size + 1) 98 i0 z0 5 i0.bytes Tryz.underlying34 hi0 hz0 hz1 rfl hz2 (by decide) _ n _ L.flatten rfl HO3.out (w2.heap.size + 1) (some ⟨w2.heap.size, 0, none⟩) 1 1 bh rfl (by rw [HLB.out]) (rd_one w2 bh 98) HF1.out (by simp only [maxLen]; omega) (HBY.out _ (by omega)) (by have := HS1.out; have := HS2.out; simp; omega) ?_; intro A3 c3 w4 ho4 hb4; have HN3 := Lib.hid (own_cap ho4); obtain ⟨g, rfl⟩ := own_some ho4 (by omega); have hcap := own_cap ho4; have HO4 := Lib.hid ho4; have HB4 := Lib.hid hb4; clear ho4 hb4)
    | fail)
  go_ret
  refine ⟨g, c3, by rw [HN.out]; rfl, by rw [← HN.out]; exact HN3.out, own_max HO4.out, ?_, Rd.of_own HO4.out, ?_⟩
  · have := own_base HO4.out g rfl; omega
  · exact HB0.out.trans (((HB1.out.mono (by have := HS0.out; omega)).trans (HB2.out.mono (by omega))).trans (((Below.refl w.heap.size w2).alloc (by have := HS1.out; have := HS2.out; omega) _).trans (HB4.out.mono (by omega))))

set_option maxRecDepth 100000 in
set_option maxHeartbeats 1600000 in
theorem lentTotal (A : Option Addr) (n c : Nat) (L : List (List Value)) (bh : List Value) (w : World) (hn : n = L.length) (hn4 : n ≤ 1000) (hL : Things kTotal L) (hb : Fits kTotal bh) (hr : Rd w w.heap.size A L.flatten) :
    Calls Tryz.prog 28 #[.slice A n c, .agg bh.toArray] w (LentPost L bh w) := by
  obtain ⟨i0, z0, hi0, hz0, hz1, hz2, hz3⟩ := info_thing (P := Tryz.prog) (T := 101) (sz := 6) (by kernel_rfl)
  have hk : kTotal.length = 6 := by decide
  have hlL : L.flatten.length = n * 6 := by rw [flat_length hL.len, hk, hn]
  have hlb : bh.length = 6 := by rw [hb.length, hk]
  obtain ⟨w0, hw0⟩ : ∃ w0, w0 = w.alloc (.cells bh.toArray 101) := ⟨_, rfl⟩
  have hb0 : Below w.heap.size w w0 := by rw [hw0]; exact (Below.refl _ _).alloc (Nat.le_refl _) _
  have hs0 : w0.heap.size = w.heap.size + 1 := by rw [hw0]; simp
  have HBX : Hid (w0.heap[w.heap.size]? = some (.cells bh.toArray 101 (0, 0))) := Lib.hid (by rw [hw0]; exact heap_alloc_new _ _)
  obtain ⟨w1, hmk, hown1, hg1⟩ := run_make_own (P := Tryz.prog) w0 w0.heap.size 35 101 i0 _ 6 Tryz.underlying35 hi0 hz0 hz1 .i64 .i64 (n + 1) (Nat.le_trans (Nat.mul_le_mul hz3 (show n + 1 ≤ 1001 by omega)) (by decide)) (by simp only [maxLen]; omega) (Nat.le_refl _)
  rw [show (((n + 1 : Nat)) : Int) = (n : Int) + 1 from by omega] at hmk
  rw [hs0] at hown1
  have HB1 : Hid (Below w0.heap.size w0 w1) := Lib.hid ((Below.refl _ _).grown hg1 (Nat.le_refl _) (by simp))
  have HR0 : Hid (Rd w0 w0.heap.size A L.flatten) := Lib.hid ((hr.below hb0).mono hb0.size)
  have HO1 := Lib.hid hown1
  have HL1 := Lib.hid (things_one hL)
  have HF1 := Lib.hid (fits_one hb)
  have HLL := Lib.hid hlL
  have HLB := Lib.hid hlb
  have HN := Lib.hid hn
  have HB0 := Lib.hid hb0
  have HS0 := Lib.hid hs0
  have hu := Tryz.underlying101
  have HSZ : Hid ((Tryz.prog.info? 101).map (·.size) = some bh.toArray.size) := Lib.hid (by rw [hi0]; simp [hz1, hlb])
  have HBY : Hid (∀ x, x ≤ 1001 → x * i0.bytes ≤ 140737488355328) := Lib.hid (fun x hx => Nat.le_trans (Nat.mul_le_mul hx hz3) (by decide))
  clear hn hL hb hr hk hlL hlb hown1 hg1 hb0 hs0
  rw [hw0] at hmk
  go_enter Tryz.func28, Tryz.ntmps28
  have HS1 : Hid (w.heap.size + 1 ≤ w1.heap.size) := Lib.hid (by have := HB1.out.size; have := HS0.out; omega)
  have HR1 : Hid (Rd w1 w1.heap.size A L.flatten) := Lib.hid ((HR0.out.below HB1.out).mono HB1.out.size)
  have HBX1 : Hid (w1.heap[w.heap.size]? = some (.cells bh.toArray 101 (0, 0))) := Lib.hid ((HB1.out.block _ (by have := HS0.out; omega)).trans HBX.out)
  go_wp2_with (first
    | (at_builtin; refine wpList_app rfl (.tmp 10) (.tmp 11) _ rfl (w.heap.size + 1) 101 i0 z0 6 i0.bytes Tryz.underlying35 hi0 hz0 hz1 rfl hz2 (by decide) _ 0 _ [] rfl HO1.out w1.heap.size A n c L.flatten rfl HLL.out HR1.out HL1.out (by simp only [maxLen]; omega) (HBY.out _ (by omega)) HS1.out ?_; intro A2 c2 w2 ho2 hb2; have HO2 := Lib.hid ho2; have HB2 := Lib.hid hb2; have HBX2 : Hid (w2.heap[w.heap.size]? = some (.cells bh.toArray 101 (0, 0))) := Lib.hid ((hb2.block _ (by omega)).trans HBX1.out); clear ho2 hb2)
    | (refine wpList_load_row rfl 101 (.tmp 3) rfl w.heap.size rfl _ _ _ _ HBX2.out hu rfl HSZ.out ?_)
    | (refine wpList_buildOne rfl _ 101 _ rfl w2.heap.size rfl _ rfl i0 z0 6 Tryz.underlying35 hi0 hz0 hz1 (by decide) (by decide) bh (by rfl) HLB.out ?_; have HO3 := Lib.hid (own_zero HO2.out bh); have HS2 := Lib.hid HB2.out.size)
    | (at_builtin; refine wpList_app rfl (.tmp 13) (.tmp 15) _ rfl (w.heap.size + 1) 101 i0 z0 6 i0.bytes Tryz.underlying35 hi0 hz0 hz1 rfl hz2 (by decide) _ n _ L.flatten rfl HO3.out (w2.heap.size + 1) (some ⟨w2.heap.size, 0, none⟩) 1 1 bh rfl (by rw [HLB.out]) (rd_one w2 bh 101) HF1.out (by simp only [maxLen]; omega) (HBY.out _ (by omega)) (by have := HS1.out; have := HS2.out; simp; omega) ?_; intro A3 c3 w4 ho4 hb4; have HN3 := Lib.hid (own_cap ho4); obtain ⟨g, rfl⟩ := own_some ho4 (by omega); have hcap := own_cap ho4; have HO4 := Lib.hid ho4; have HB4 := Lib.hid hb4; clear ho4 hb4)
    | fail)
  go_ret
  refine ⟨g, c3, by rw [HN.out]; rfl, by rw [← HN.out]; exact HN3.out, own_max HO4.out, ?_, Rd.of_own HO4.out, ?_⟩
  · have := own_base HO4.out g rfl; omega
  · exact HB0.out.trans (((HB1.out.mono (by have := HS0.out; omega)).trans (HB2.out.mono (by omega))).trans (((Below.refl w.heap.size w2).alloc (by have := HS1.out; have := HS2.out; omega) _).trans (HB4.out.mono (by omega))))

end Go.Proofs.YtjphjblcahadkaaGreat
