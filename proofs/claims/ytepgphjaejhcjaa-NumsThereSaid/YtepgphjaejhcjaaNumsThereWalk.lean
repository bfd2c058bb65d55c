/-
  THE WALK of the law NumsThere.
-/
import Derived.Test.YtepgphjaejhcjaaNAwake
import Derived.Test.YtepgphjaejhcjaaNPlain3
namespace Go.Proofs.Ytepgphjaejhcjaa.numsThere
open Go.RowKit

theorem put_one (n : Nat) (hn : n ≤ 9223372036854775807) (w : World) :
    Calls Try.prog 12 #[.slice (some ⟨w.heap.size, 0, none⟩) 1 1] (w.alloc (.cells #[.int .i64 (n : Int)] 3)) fun e w' => e = .returned (.string ⟨(Pl.enc n).toArray⟩) ∧ Below w.heap.size w w' := by
  have hp := put_any w.heap.size 0 1 1 [(n : Int)] (w.alloc (.cells #[.int .i64 (n : Int)] 3)) (by simp) rfl (by omega) (one_cell _ _) (one_wf _ (by omega) (by omega))
  rw [encs_one] at hp
  exact hp.mono fun e w' ⟨h1, h2⟩ => ⟨h1, ((Below.refl w.heap.size w).alloc (Nat.le_refl _) _).trans (h2.mono (by simp))⟩
theorem text_laid {l a b : List UInt8} (h : Pl.takeTextL l = some (a, b)) : Pl.enc a.length ++ a ++ b = l := by
  unfold Pl.takeTextL at h
  cases ht : Pl.takeL l with
  | none => rw [ht] at h; cases h
  | some p =>
    obtain ⟨n, r⟩ := p
    rw [ht] at h
    simp only at h
    split at h
    · cases h
    · simp only [Option.some.injEq, Prod.mk.injEq] at h
      obtain ⟨rfl, rfl⟩ := h
      obtain ⟨h1, _⟩ := Pl.takeL_laid ht
      rw [List.length_take, Nat.min_eq_left (by omega), List.append_assoc, List.take_append_drop, h1]
theorem mk_eq (s : ByteArray) (x y : List UInt8) (h : x ++ y = s.data.toList) : (⟨x.toArray⟩ : ByteArray) ++ ⟨y.toArray⟩ = s := by
  rw [Pl.mk_app]
  apply ByteArray.ext
  show (x ++ y).toArray = s.data
  rw [h]

set_option maxRecDepth 100000 in
theorem walk (a0 : ByteArray) (w : World) (w0 : a0.size ≤ maxLen) :
    Calls Try.prog 6 #[.string a0] w fun e w' => e = .returned (.bool true) ∧ Below w.heap.size w w' := by
  have h1 := fun W => take_any a0 W w0
  have h3 := fun W => takeText_any a0 W w0
  have hlen := Pl.length_toList a0
  unfold maxLen at w0
  cases ht : Pl.takeL a0.data.toList with
  | none =>
    have hv : Pl.takeTextL a0.data.toList = none := by unfold Pl.takeTextL; rw [ht]
    simp only [ht, hv, takeV, takeTextV] at h1 h3
    have H1 := Lib.hid h1
    have H3 := Lib.hid h3
    clear h1 h3 ht hv w0 hlen
    go_enter Try.func6, Try.ntmps6
    go_wp2_with fail
    refine (H1.out _).mono ?_
    rintro e w1 ⟨rfl, n1, rfl⟩
    go_wp2_with fail
    refine (H3.out _).mono ?_
    rintro e w1 ⟨rfl, n3, rfl⟩
    go_wp2_with fail
    refine (awake_any _).mono ?_
    rintro e w1 ⟨rfl, hb⟩
    go_wp2_with fail
    go_ret
    exact ⟨rfl, (below_drewN (Below.refl _ w) _).trans hb⟩
  | some p =>
    obtain ⟨n, r⟩ := p
    obtain ⟨hl, hn⟩ := Pl.takeL_laid ht
    have hsz : (Pl.enc n).length + r.length = a0.size := by rw [← hlen, ← hl, List.length_append]
    have heq := mk_eq a0 _ _ hl
    have hp := fun W => put_one n hn W
    have hq : (((⟨(Pl.enc n).toArray⟩ : ByteArray) ++ ⟨r.toArray⟩).toList == a0.toList) = true := by rw [heq]; simp
    have hneg : decide ((n : Int) < 0) = false := by simp
    cases hv : Pl.takeTextL a0.data.toList with
    | none =>
      simp only [ht, hv, takeV, takeTextV] at h1 h3
      have H1 := Lib.hid h1
      have H3 := Lib.hid h3
      have HP := Lib.hid hp
      have hszl : (Pl.enc n).length + r.length ≤ a0.size := by omega
      clear h1 h3 ht hv hl hlen heq hp hsz
      go_enter Try.func6, Try.ntmps6
      go_wp2_with fail
      refine (H1.out _).mono ?_
      rintro e w1 ⟨rfl, n1, rfl⟩
      go_wp2_with fail
      refine (HP.out _).mono ?_
      rintro e w2 ⟨rfl, hb2⟩
      go_wp2_with fail
      refine (H3.out _).mono ?_
      rintro e w1 ⟨rfl, n3, rfl⟩
      go_wp2_with fail
      refine (awake_any _).mono ?_
      rintro e w1 ⟨rfl, hb⟩
      go_wp2_with fail
      go_ret
      exact ⟨rfl, (below_drewN ((below_drewN (Below.refl _ w) _).trans hb2) _).trans (hb.mono hb2.size)⟩
    | some q =>
      obtain ⟨x, y⟩ := q
      have htx := text_laid hv
      have hsx : (Pl.enc x.length).length + x.length + y.length = a0.size := by rw [← hlen, ← htx, List.length_append, List.length_append]
      have hxs : (⟨x.toArray⟩ : ByteArray).size = x.length := by simp [ByteArray.size]
      have htxt := fun W => text_any ⟨x.toArray⟩ W (by rw [hxs]; omega)
      have hq2 : (((⟨(textL x).toArray⟩ : ByteArray) ++ ⟨y.toArray⟩).toList == a0.toList) = true := by unfold textL; rw [mk_eq a0 _ _ htx]; simp
      have hlt : (textL x).length + y.length ≤ a0.size := by unfold textL; rw [List.length_append]; omega
      simp only [ht, hv, takeV, takeTextV] at h1 h3
      have H1 := Lib.hid h1
      have H3 := Lib.hid h3
      have HP := Lib.hid hp
      have HT := Lib.hid htxt
      have hszl : (Pl.enc n).length + r.length ≤ a0.size := by omega
      clear h1 h3 ht hv hl hlen heq hp hsz htxt htx hsx hxs
      go_enter Try.func6, Try.ntmps6
      go_wp2_with fail
      refine (H1.out _).mono ?_
      rintro e w1 ⟨rfl, n1, rfl⟩
      go_wp2_with fail
      refine (HP.out _).mono ?_
      rintro e w2 ⟨rfl, hb2⟩
      go_wp2_with fail
      refine (H3.out _).mono ?_
      rintro e w1 ⟨rfl, n3, rfl⟩
      go_wp2_with fail
      refine (HT.out _).mono ?_
      rintro e w3 ⟨rfl, hb3⟩
      go_wp2_with fail
      refine (awake_any _).mono ?_
      rintro e w1 ⟨rfl, hb⟩
      go_wp2_with fail
      go_ret
      exact ⟨rfl, ((below_drewN ((below_drewN (Below.refl _ w) _).trans hb2) _).trans (hb3.mono hb2.size)).trans (hb.mono (Nat.le_trans hb2.size hb3.size))⟩
end Go.Proofs.Ytepgphjaejhcjaa.numsThere
