/-
  stevedorekeep's Same: the first list that differs.
-/
import Derived.Test.YtjphjblcahadkaaGreatHSames
namespace Go.Proofs.YtjphjblcahadkaaGreat
open Go.RowKit

set_option maxRecDepth 100000 in
set_option maxHeartbeats 6400000 in
theorem sames_at7 (h g : Hs) (w : World) (s0 : SameK Tryz.prog 41 h g w 0 true) (s1 : SameK Tryz.prog 42 h g w 1 true) (s2 : SameK Tryz.prog 43 h g w 2 true) (s3 : SameK Tryz.prog 44 h g w 3 true) (s4 : SameK Tryz.prog 45 h g w 4 true) (s5 : SameK Tryz.prog 46 h g w 5 true) (s6 : SameK Tryz.prog 47 h g w 6 true) (s7 : SameK Tryz.prog 48 h g w 7 false) : Calls Tryz.prog 12 #[h.val, g.val] w fun e w' => e = .returned (.bool false) ∧ Below w.heap.size w w' := by
  have S0 := Lib.hid s0
  have S1 := Lib.hid s1
  have S2 := Lib.hid s2
  have S3 := Lib.hid s3
  have S4 := Lib.hid s4
  have S5 := Lib.hid s5
  have S6 := Lib.hid s6
  have S7 := Lib.hid s7
  have H := Lib.hid (held_start h g w 37)
  clear s0 s1 s2 s3 s4 s5 s6 s7
  unfold Hs.val
  go_enter Tryz.func12, Tryz.ntmps12
  go_wp2_with (first
      | (go_at_call 41; refine (S0.out _ H.out.1).mono ?_; rintro e w' ⟨rfl, hb'⟩; have H := Lib.hid (H.out.next hb'); clear hb'; have x1 : w'.cell? ⟨w.heap.size, 1, none⟩ = some (.slice (h.A 1) (h.n 1) (h.c 1)) := (cell_of_block H.out.2.1).trans rfl; have y1 : w'.cell? ⟨w.heap.size + 1, 1, none⟩ = some (.slice (g.A 1) (g.n 1) (g.c 1)) := (cell_of_block H.out.2.2).trans rfl)
      | (go_at_call 42; refine (S1.out _ H.out.1).mono ?_; rintro e w' ⟨rfl, hb'⟩; have H := Lib.hid (H.out.next hb'); clear hb'; have x2 : w'.cell? ⟨w.heap.size, 2, none⟩ = some (.slice (h.A 2) (h.n 2) (h.c 2)) := (cell_of_block H.out.2.1).trans rfl; have y2 : w'.cell? ⟨w.heap.size + 1, 2, none⟩ = some (.slice (g.A 2) (g.n 2) (g.c 2)) := (cell_of_block H.out.2.2).trans rfl)
      | (go_at_call 43; refine (S2.out _ H.out.1).mono ?_; rintro e w' ⟨rfl, hb'⟩; have H := Lib.hid (H.out.next hb'); clear hb'; have x3 : w'.cell? ⟨w.heap.size, 3, none⟩ = some (.slice (h.A 3) (h.n 3) (h.c 3)) := (cell_of_block H.out.2.1).trans rfl; have y3 : w'.cell? ⟨w.heap.size + 1, 3, none⟩ = some (.slice (g.A 3) (g.n 3) (g.c 3)) := (cell_of_block H.out.2.2).trans rfl)
      | (go_at_call 44; refine (S3.out _ H.out.1).mono ?_; rintro e w' ⟨rfl, hb'⟩; have H := Lib.hid (H.out.next hb'); clear hb'; have x4 : w'.cell? ⟨w.heap.size, 4, none⟩ = some (.slice (h.A 4) (h.n 4) (h.c 4)) := (cell_of_block H.out.2.1).trans rfl; have y4 : w'.cell? ⟨w.heap.size + 1, 4, none⟩ = some (.slice (g.A 4) (g.n 4) (g.c 4)) := (cell_of_block H.out.2.2).trans rfl)
      | (go_at_call 45; refine (S4.out _ H.out.1).mono ?_; rintro e w' ⟨rfl, hb'⟩; have H := Lib.hid (H.out.next hb'); clear hb'; have x5 : w'.cell? ⟨w.heap.size, 5, none⟩ = some (.slice (h.A 5) (h.n 5) (h.c 5)) := (cell_of_block H.out.2.1).trans rfl; have y5 : w'.cell? ⟨w.heap.size + 1, 5, none⟩ = some (.slice (g.A 5) (g.n 5) (g.c 5)) := (cell_of_block H.out.2.2).trans rfl)
      | (go_at_call 46; refine (S5.out _ H.out.1).mono ?_; rintro e w' ⟨rfl, hb'⟩; have H := Lib.hid (H.out.next hb'); clear hb'; have x6 : w'.cell? ⟨w.heap.size, 6, none⟩ = some (.slice (h.A 6) (h.n 6) (h.c 6)) := (cell_of_block H.out.2.1).trans rfl; have y6 : w'.cell? ⟨w.heap.size + 1, 6, none⟩ = some (.slice (g.A 6) (g.n 6) (g.c 6)) := (cell_of_block H.out.2.2).trans rfl)
      | (go_at_call 47; refine (S6.out _ H.out.1).mono ?_; rintro e w' ⟨rfl, hb'⟩; have H := Lib.hid (H.out.next hb'); clear hb'; have x7 : w'.cell? ⟨w.heap.size, 7, none⟩ = some (.slice (h.A 7) (h.n 7) (h.c 7)) := (cell_of_block H.out.2.1).trans rfl; have y7 : w'.cell? ⟨w.heap.size + 1, 7, none⟩ = some (.slice (g.A 7) (g.n 7) (g.c 7)) := (cell_of_block H.out.2.2).trans rfl)
      | (go_at_call 48; refine (S7.out _ H.out.1).mono ?_; rintro e w' ⟨rfl, hb'⟩; have H := Lib.hid (H.out.next hb'); clear hb')
      | fail)
  go_ret
  exact ⟨rfl, H.out.1⟩
set_option maxRecDepth 100000 in
set_option maxHeartbeats 6400000 in
theorem sames_at8 (h g : Hs) (w : World) (s0 : SameK Tryz.prog 41 h g w 0 true) (s1 : SameK Tryz.prog 42 h g w 1 true) (s2 : SameK Tryz.prog 43 h g w 2 true) (s3 : SameK Tryz.prog 44 h g w 3 true) (s4 : SameK Tryz.prog 45 h g w 4 true) (s5 : SameK Tryz.prog 46 h g w 5 true) (s6 : SameK Tryz.prog 47 h g w 6 true) (s7 : SameK Tryz.prog 48 h g w 7 true) (s8 : SameK Tryz.prog 49 h g w 8 false) : Calls Tryz.prog 12 #[h.val, g.val] w fun e w' => e = .returned (.bool false) ∧ Below w.heap.size w w' := by
  have S0 := Lib.hid s0
  have S1 := Lib.hid s1
  have S2 := Lib.hid s2
  have S3 := Lib.hid s3
  have S4 := Lib.hid s4
  have S5 := Lib.hid s5
  have S6 := Lib.hid s6
  have S7 := Lib.hid s7
  have S8 := Lib.hid s8
  have H := Lib.hid (held_start h g w 37)
  clear s0 s1 s2 s3 s4 s5 s6 s7 s8
  unfold Hs.val
  go_enter Tryz.func12, Tryz.ntmps12
  go_wp2_with (first
      | (go_at_call 41; refine (S0.out _ H.out.1).mono ?_; rintro e w' ⟨rfl, hb'⟩; have H := Lib.hid (H.out.next hb'); clear hb'; have x1 : w'.cell? ⟨w.heap.size, 1, none⟩ = some (.slice (h.A 1) (h.n 1) (h.c 1)) := (cell_of_block H.out.2.1).trans rfl; have y1 : w'.cell? ⟨w.heap.size + 1, 1, none⟩ = some (.slice (g.A 1) (g.n 1) (g.c 1)) := (cell_of_block H.out.2.2).trans rfl)
      | (go_at_call 42; refine (S1.out _ H.out.1).mono ?_; rintro e w' ⟨rfl, hb'⟩; have H := Lib.hid (H.out.next hb'); clear hb'; have x2 : w'.cell? ⟨w.heap.size, 2, none⟩ = some (.slice (h.A 2) (h.n 2) (h.c 2)) := (cell_of_block H.out.2.1).trans rfl; have y2 : w'.cell? ⟨w.heap.size + 1, 2, none⟩ = some (.slice (g.A 2) (g.n 2) (g.c 2)) := (cell_of_block H.out.2.2).trans rfl)
      | (go_at_call 43; refine (S2.out _ H.out.1).mono ?_; rintro e w' ⟨rfl, hb'⟩; have H := Lib.hid (H.out.next hb'); clear hb'; have x3 : w'.cell? ⟨w.heap.size, 3, none⟩ = some (.slice (h.A 3) (h.n 3) (h.c 3)) := (cell_of_block H.out.2.1).trans rfl; have y3 : w'.cell? ⟨w.heap.size + 1, 3, none⟩ = some (.slice (g.A 3) (g.n 3) (g.c 3)) := (cell_of_block H.out.2.2).trans rfl)
      | (go_at_call 44; refine (S3.out _ H.out.1).mono ?_; rintro e w' ⟨rfl, hb'⟩; have H := Lib.hid (H.out.next hb'); clear hb'; have x4 : w'.cell? ⟨w.heap.size, 4, none⟩ = some (.slice (h.A 4) (h.n 4) (h.c 4)) := (cell_of_block H.out.2.1).trans rfl; have y4 : w'.cell? ⟨w.heap.size + 1, 4, none⟩ = some (.slice (g.A 4) (g.n 4) (g.c 4)) := (cell_of_block H.out.2.2).trans rfl)
      | (go_at_call 45; refine (S4.out _ H.out.1).mono ?_; rintro e w' ⟨rfl, hb'⟩; have H := Lib.hid (H.out.next hb'); clear hb'; have x5 : w'.cell? ⟨w.heap.size, 5, none⟩ = some (.slice (h.A 5) (h.n 5) (h.c 5)) := (cell_of_block H.out.2.1).trans rfl; have y5 : w'.cell? ⟨w.heap.size + 1, 5, none⟩ = some (.slice (g.A 5) (g.n 5) (g.c 5)) := (cell_of_block H.out.2.2).trans rfl)
      | (go_at_call 46; refine (S5.out _ H.out.1).mono ?_; rintro e w' ⟨rfl, hb'⟩; have H := Lib.hid (H.out.next hb'); clear hb'; have x6 : w'.cell? ⟨w.heap.size, 6, none⟩ = some (.slice (h.A 6) (h.n 6) (h.c 6)) := (cell_of_block H.out.2.1).trans rfl; have y6 : w'.cell? ⟨w.heap.size + 1, 6, none⟩ = some (.slice (g.A 6) (g.n 6) (g.c 6)) := (cell_of_block H.out.2.2).trans rfl)
      | (go_at_call 47; refine (S6.out _ H.out.1).mono ?_; rintro e w' ⟨rfl, hb'⟩; have H := Lib.hid (H.out.next hb'); clear hb'; have x7 : w'.cell? ⟨w.heap.size, 7, none⟩ = some (.slice (h.A 7) (h.n 7) (h.c 7)) := (cell_of_block H.out.2.1).trans rfl; have y7 : w'.cell? ⟨w.heap.size + 1, 7, none⟩ = some (.slice (g.A 7) (g.n 7) (g.c 7)) := (cell_of_block H.out.2.2).trans rfl)
      | (go_at_call 48; refine (S7.out _ H.out.1).mono ?_; rintro e w' ⟨rfl, hb'⟩; have H := Lib.hid (H.out.next hb'); clear hb'; have x8 : w'.cell? ⟨w.heap.size, 8, none⟩ = some (.slice (h.A 8) (h.n 8) (h.c 8)) := (cell_of_block H.out.2.1).trans rfl; have y8 : w'.cell? ⟨w.heap.size + 1, 8, none⟩ = some (.slice (g.A 8) (g.n 8) (g.c 8)) := (cell_of_block H.out.2.2).trans rfl)
      | (go_at_call 49; refine (S8.out _ H.out.1).mono ?_; rintro e w' ⟨rfl, hb'⟩; have H := Lib.hid (H.out.next hb'); clear hb')
      | fail)
  go_ret
  exact ⟨rfl, H.out.1⟩
end Go.Proofs.YtjphjblcahadkaaGreat
