/-
  CONTRACT of Files: the keys of the map of files, rising, in a new slice.
-/
import Derived.Test.YtcmeaeemjecjiaaMRead
import Derived.Test.YtcmeaeemjecjiaaMLay
import Derived.Shelf.AbstractIn
namespace Go.Proofs.Ytcmeaeemjecjiaa
open Go.RowKit Go.Maps Go.Sort Go.Shelf

/-- slices.Sort's two contracts at this program, at the fence that asks nothing. -/
theorem sortsA (m : Nat) : AnyZI.SortsIn Try.prog lay_sortedA_ren Fence.wide m :=
  ⟨fun blk off cap ss W hH hblk hsz => callsIn_wide.2 (AnyM.slices_Sort_int lay_sortA blk off cap ss W hH hblk hsz),
   fun p cap W => callsIn_wide.2 (AnyM.slices_Sort_int_none lay_sortA p cap W)⟩

def FilesPost (f : Int → Option Value) (w : World) (e : Ending) (w' : World) : Prop :=
  ∃ A n c, ∃ l : List Int, e = .returned (.slice A n c) ∧ n = l.length ∧ n ≤ 1000000 ∧ l.Pairwise (· < ·) ∧ (∀ x, x ∈ l ↔ (f x).isSome = true) ∧ w'.ownsRow w.heap.size 3 1 (.slice A n c) n (l.map (Value.int .i64)) ∧ Below w.heap.size w w'

theorem rising_of {ss : List Int} (h : ss.Nodup) : (ss.mergeSort (fun x y => decide (x ≤ y))).Pairwise (· < ·) := by
  have tr : ∀ a b c : Int, decide (a ≤ b) = true → decide (b ≤ c) = true → decide (a ≤ c) = true := fun a b c h1 h2 => by simp only [decide_eq_true_eq] at *; omega
  have to : ∀ a b : Int, (decide (a ≤ b) || decide (b ≤ a)) = true := fun a b => by simp only [Bool.or_eq_true, decide_eq_true_eq]; omega
  have h1 := List.pairwise_mergeSort tr to ss
  have h2 : (ss.mergeSort (fun x y => decide (x ≤ y))).Nodup := (List.mergeSort_perm ss _).nodup_iff.2 h
  exact (h1.and h2).imp fun {a b} ⟨x, y⟩ => by simp only [decide_eq_true_eq] at x; have : a ≠ b := y; omega

theorem own_slice {w : World} {B size n : Nat} {e : TypeId} {v : Value} {xs : List Value} (h : w.ownsRow B e size v n xs) : ∃ A c, v = .slice A n c := by
  rcases h.2 with ⟨hv, rfl⟩ | ⟨g, cap, cur, hv, _⟩
  · exact ⟨none, 0, hv⟩
  · exact ⟨_, _, hv⟩

set_option maxHeartbeats 1000000 in
theorem files_any (b bo n : Nat) (off armed : Bool) (left writes : Int) (f : Int → Option Value) (w : World) (h : MS w b bo off armed left writes) (hf : IM w bo n f) (hn : n ≤ 1000000) :
    Calls Try.prog 28 #[.pointer (some ⟨b, 0, none⟩)] w (FilesPost f w) := by
  refine (callsIn_wide (n := 7)).1 ?_
  obtain ⟨D0, hown, hS⟩ := hf
  have hbl := hown.lt
  have hmax : Maps.size D0 ≤ maxLen := by have := hown.size_le; unfold maxLen; omega
  have hbytes : Maps.size D0 * 8 ≤ 140737488355328 := by have := hown.size_le; omega
  have c0 := h.cl.c0
  have hseq : SeqGives Fence.wide 3 Try.prog 41 #[.pointer (some ⟨w.heap.size, 0, none⟩)] encZ (fun ss => ss.Perm (intKeys D0)) (Maps.size D0) (w.alloc (.cells #[.map (some bo)] 47)) :=
    AnyZI.keys_gives (ρ := lay_keysA_ren) { lay_keysA with } Fence.wide _ trivial rfl (by omega) w.heap.size bo n D0 _ (by simp) (by simp) (by
      obtain ⟨es, clock, hb, Ft, hs, hD⟩ := hown
      exact ⟨es, clock, (Below.heap_alloc _ _ bo hbl).trans hb, Ft, hs, hD⟩)
  have cK : ∀ mb W, CallsIn Fence.wide 6 Try.prog 35 #[.map mb] W fun e w' => e = .returned (.func (.func 41) #[] #[.pointer (some ⟨W.heap.size, 0, none⟩)]) ∧ w' = W.alloc (.cells #[.map mb] 47) := fun mb W => AnyZI.keys_in lay_keysA Fence.wide 6 trivial rfl mb W
  have cS := AnyZI.sorted_in lay_sortedA Fence.wide 6 trivial trivial trivial trivial rfl (by omega) (sortsA _) (enters_of Try.func40 (by kernel_rfl) rfl) 41 #[.pointer (some ⟨w.heap.size, 0, none⟩)] trivial (enters_of Try.func41 (by kernel_rfl) rfl) _ _ hmax hbytes _ hseq
  change CallsIn _ _ Try.prog 34 _ _ _ at cS
  have hfK : Fence.wide.fn 35 := trivial
  have hfS : Fence.wide.fn 34 := trivial
  have HS := Lib.hid hS
  have HO := Lib.hid hown
  clear hS hown h hseq
  refine callsIn_of_wp Try.func28 rfl trivial ?_ rfl
  simp only [Try.ntmps28, List.size_toArray, List.length_cons, List.length_nil, Nat.reduceAdd, Nat.reduceSub, Array.replicate_succ, Array.replicate_zero, List.push_toArray, List.append_toArray, List.nil_append, List.cons_append]
  gi_wp2_with (first
    | (gi_at_call 35; refine (cK _ _).mono ?_; rintro e w' ⟨rfl, rfl⟩)
    | (gi_at_call 34; refine cS.mono ?_; rintro e w' ⟨v, ss, rfl, hP, hrow, hnil, hb⟩; have HP := Lib.hid hP; have HR := Lib.hid hrow; have HB := Lib.hid hb; clear hP hrow hnil hb))
  go_ret
  obtain ⟨hnd, hm⟩ := IM.keys HO.out HS.out HP.out
  have hrow := ownsRow_base_a HR.out (base' := w.heap.size) (by simp)
  obtain ⟨A, c, rfl⟩ := own_slice hrow
  have hlen : ss.length ≤ 1000000 := by
    rw [HP.out.length_eq]
    obtain ⟨es, hes⟩ := HS.out.isMap
    have hsz := HO.out.size_le
    rw [hes] at hsz ⊢
    have : (intKeys (.map es : DV)).length = es.length := by simp [intKeys]
    have h2 : Maps.size (.map es : DV) = es.length := rfl
    omega
  refine ⟨A, ss.length, c, _, rfl, by rw [List.length_mergeSort], hlen, rising_of hnd, fun x => ?_, hrow, ((Below.refl _ w).alloc (Nat.le_refl _) _).trans (HB.out.mono (by simp))⟩
  rw [List.mem_mergeSort, hm x]
end Go.Proofs.Ytcmeaeemjecjiaa
