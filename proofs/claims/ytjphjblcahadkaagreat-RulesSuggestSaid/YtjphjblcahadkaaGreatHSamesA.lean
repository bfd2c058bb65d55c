/-
  stevedorekeep's Same: the first list that differs.
-/
import Derived.Test.YtjphjblcahadkaaGreatHSames
namespace Go.Proofs.YtjphjblcahadkaaGreat
open Go.RowKit

set_option maxRecDepth 100000 in
set_option maxHeartbeats 6400000 in
theorem sames_at0 (h g : Hs) (w : World) (s0 : SameK Tryz.prog 41 h g w 0 false) : Calls Tryz.prog 12 #[h.val, g.val] w fun e w' => e = .returned (.bool false) ∧ Below w.heap.size w w' := by
  have S0 := Lib.hid s0
  have H := Lib.hid (held_start h g w 37)
  clear s0
  unfold Hs.val
  go_enter Tryz.func12, Tryz.ntmps12
  go_wp2_with (first
      | (go_at_call 41; refine (S0.out _ H.out.1).mono ?_; rintro e w' ⟨rfl, hb'⟩; have H := Lib.hid (H.out.next hb'); clear hb')
      | fail)
  go_ret
  exact ⟨rfl, H.out.1⟩
set_option maxRecDepth 100000 in
set_option maxHeartbeats 6400000 in
theorem sames_at1 (h g : Hs) (w : World) (s0 : SameK Tryz.prog 41 h g w 0 true) (s1 : SameK Tryz.prog 42 h g w 1 false) : Calls Tryz.prog 12 #[h.val, g.val] w fun e w' => e = .returned (.bool false) ∧ Below w.heap.size w w' := by
  have S0 := Lib.hid s0
  have S1 := Lib.hid s1
  have H := Lib.hid (held_start h g w 37)
  clear s0 s1
  unfold Hs.val
  go_enter Tryz.func12, Tryz.ntmps12
  go_wp2_with (first
      | (go_at_call 41; refine (S0.out _ H.out.1).mono ?_; rintro e w' ⟨rfl, hb'⟩; have H := Lib.hid (H.out.next hb'); clear hb'; have x1 : w'.cell? ⟨w.heap.size, 1, none⟩ = some (.slice (h.A 1) (h.n 1) (h.c 1)) := (cell_of_block H.out.2.1).trans rfl; have y1 : w'.cell? ⟨w.heap.size + 1, 1, none⟩ = some (.slice (g.A 1) (g.n 1) (g.c 1)) := (cell_of_block H.out.2.2).trans rfl)
      | (go_at_call 42; refine (S1.out _ H.out.1).mono ?_; rintro e w' ⟨rfl, hb'⟩; have H := Lib.hid (H.out.next hb'); clear hb')
      | fail)
  go_ret
  exact ⟨rfl, H.out.1⟩
set_option maxRecDepth 100000 in
set_option maxHeartbeats 6400000 in
theorem sames_at2 (h g : Hs) (w : World) (s0 : SameK Tryz.prog 41 h g w 0 true) (s1 : SameK Tryz.prog 42 h g w 1 true) (s2 : SameK Tryz.prog 43 h g w 2 false) : Calls Tryz.prog 12 #[h.val, g.val] w fun e w' => e = .returned (.bool false) ∧ Below w.heap.size w w' := by
  have S0 := Lib.hid s0
  have S1 := Lib.hid s1
  have S2 := Lib.hid s2
  have H := Lib.hid (held_start h g w 37)
  clear s0 s1 s2
  unfold Hs.val
  go_enter Tryz.func12, Tryz.ntmps12
  go_wp2_with (first
      | (go_at_call 41; refine (S0.out _ H.out.1).mono ?_; rintro e w' ⟨rfl, hb'⟩; have H := Lib.hid (H.out.next hb'); clear hb'; have x1 : w'.cell? ⟨w.heap.size, 1, none⟩ = some (.slice (h.A 1) (h.n 1) (h.c 1)) := (cell_of_block H.out.2.1).trans rfl; have y1 : w'.cell? ⟨w.heap.size + 1, 1, none⟩ = some (.slice (g.A 1) (g.n 1) (g.c 1)) := (cell_of_block H.out.2.2).trans rfl)
      | (go_at_call 42; refine (S1.out _ H.out.1).mono ?_; rintro e w' ⟨rfl, hb'⟩; have H := Lib.hid (H.out.next hb'); clear hb'; have x2 : w'.cell? ⟨w.heap.size, 2, none⟩ = some (.slice (h.A 2) (h.n 2) (h.c 2)) := (cell_of_block H.out.2.1).trans rfl; have y2 : w'.cell? ⟨w.heap.size + 1, 2, none⟩ = some (.slice (g.A 2) (g.n 2) (g.c 2)) := (cell_of_block H.out.2.2).trans rfl)
      | (go_at_call 43; refine (S2.out _ H.out.1).mono ?_; rintro e w' ⟨rfl, hb'⟩; have H := Lib.hid (H.out.next hb'); clear hb')
      | fail)
  go_ret
  exact ⟨rfl, H.out.1⟩
set_option maxRecDepth 100000 in
set_option maxHeartbeats 6400000 in
theorem sames_at3 (h g : Hs) (w : World) (s0 : SameK Tryz.prog 41 h g w 0 true) (s1 : SameK Tryz.prog 42 h g w 1 true) (s2 : SameK Tryz.prog 43 h g w 2 true) (s3 : SameK Tryz.prog 44 h g w 3 false) : Calls Tryz.prog 12 #[h.val, g.val] w fun e w' => e = .returned (.bool false) ∧ Below w.heap.size w w' := by
  have S0 := Lib.hid s0
  have S1 := Lib.hid s1
  have S2 := Lib.hid s2
  have S3 := Lib.hid s3
  have H := Lib.hid (held_start h g w 37)
  clear s0 s1 s2 s3
  unfold Hs.val
  go_enter Tryz.func12, Tryz.ntmps12
  go_wp2_with (first
      | (go_at_call 41; refine (S0.out _ H.out.1).mono ?_; rintro e w' ⟨rfl, hb'⟩; have H := Lib.hid (H.out.next hb'); clear hb'; have x1 : w'.cell? ⟨w.heap.size, 1, none⟩ = some (.slice (h.A 1) (h.n 1) (h.c 1)) := (cell_of_block H.out.2.1).trans rfl; have y1 : w'.cell? ⟨w.heap.size + 1, 1, none⟩ = some (.slice (g.A 1) (g.n 1) (g.c 1)) := (cell_of_block H.out.2.2).trans rfl)
      | (go_at_call 42; refine (S1.out _ H.out.1).mono ?_; rintro e w' ⟨rfl, hb'⟩; have H := Lib.hid (H.out.next hb'); clear hb'; have x2 : w'.cell? ⟨w.heap.size, 2, none⟩ = some (.slice (h.A 2) (h.n 2) (h.c 2)) := (cell_of_block H.out.2.1).trans rfl; have y2 : w'.cell? ⟨w.heap.size + 1, 2, none⟩ = some (.slice (g.A 2) (g.n 2) (g.c 2)) := (cell_of_block H.out.2.2).trans rfl)
      | (go_at_call 43; refine (S2.out _ H.out.1).mono ?_; rintro e w' ⟨rfl, hb'⟩; have H := Lib.hid (H.out.next hb'); clear hb'; have x3 : w'.cell? ⟨w.heap.size, 3, none⟩ = some (.slice (h.A 3) (h.n 3) (h.c 3)) := (cell_of_block H.out.2.1).trans rfl; have y3 : w'.cell? ⟨w.heap.size + 1, 3, none⟩ = some (.slice (g.A 3) (g.n 3) (g.c 3)) := (cell_of_block H.out.2.2).trans rfl)
      | (go_at_call 44; refine (S3.out _ H.out.1).mono ?_; rintro e w' ⟨rfl, hb'⟩; have H := Lib.hid (H.out.next hb'); clear hb')
      | fail)
  go_ret
  exact ⟨rfl, H.out.1⟩
end Go.Proofs.YtjphjblcahadkaaGreat
