/-
 PLAIN, for AllocDrops: an order that was just allocated, dropped: no error, the quants and claims as they were, one order less.
-/
import Derived.Test.YtlkmccmbpnbgbaaGreatADPl
import Derived.Test.YtlkmccmbpnbgbaaGreatAFilt
namespace Go.Proofs.YtlkmccmbpnbgbaaGreat
set_option linter.unusedVariables false
open Go.RowKit
open Pl (firstG firstG_none firstG_some findG overG putG dropG It)

theorem pick_one (M : HL) (X : List Value) (s : ByteArray) (k : Nat) : ∀ t ∈ picksA M X s k, 1 ≤ tqN t := fun t ht => by
 unfold picksA pickL at ht
 obtain ⟨p, hp, rfl⟩ := List.mem_map.1 ht
 exact (pick_mem hp).2.2.1
theorem findG_ofOrder (L : List (List Value)) (x : List Value) : findG ordOrder L x = atOrder L (codeOf x) := by
 rw [atOrder_first]
 unfold findG
 congr 1
 funext e
 exact Pl.cmp_zero _ _
theorem firstG_ahead {f : List Value → Bool} {l : List (List Value)} {k : Nat} (h : firstG f l = some k) (j : Nat) (hj : j < l.length) (hjk : j < k) : f l[j] = false := by
 unfold firstG at h
 rw [List.findIdx?_eq_some_iff_getElem] at h
 simpa using h.2.2 j hjk
/-- An order put in its own place is found; dropped, there is one less. -/
theorem order_again {L : List (List Value)} {s : ByteArray} {x : List Value} (h : (atOrder L s).isSome = true) (hx : codeOf x = s) : (atOrder (putG ordOrder L x) s).isSome = true ∧ gotOrder (putG ordOrder L x) s = x ∧ (dropG ordOrder (putG ordOrder L x) x).length + 1 = L.length := by
 subst hx
 cases ha : atOrder L (codeOf x) with
 | none => rw [ha] at h; cases h
 | some i =>
  have hf : findG ordOrder L x = some i := by rw [findG_ofOrder]; exact ha
  have hi : i < L.length := Pl.firstG_lt hf
  have hp : putG ordOrder L x = L.set i x := by
   unfold putG
   rw [hf]
   simp only []
   rw [List.set_eq_take_append_cons_drop, if_pos hi]
   simp
  have hl : (L.set i x).length = L.length := List.length_set ..
  have h2 : atOrder (L.set i x) (codeOf x) = some i := by
   rw [atOrder_first] at ha ⊢
   refine Pl.firstG_some (by rw [hl]; exact hi) (fun j hj hji => ?_) ?_
   · rw [List.getElem_set_ne (by omega)]
     exact firstG_ahead ha j (by rwa [hl] at hj) hji
   · rw [List.getElem_set_self]; exact (Pl.eqv_iff _ _).2 rfl
  refine ⟨by rw [hp, h2]; rfl, ?_, ?_⟩
  · unfold gotOrder
    rw [hp, h2]
    simp only []
    rw [List.getD_eq_getElem?_getD, List.getElem?_eq_getElem (by rw [hl]; exact hi), List.getElem_set_self]; rfl
  · rw [hp]
    unfold dropG
    rw [findG_ofOrder, h2]
    simp only []
    rw [List.length_append, List.length_take, List.length_drop, hl]; omega
theorem got_cell {X : List Value} (h : Fits kOrder X) {j : Nat} (hj : j < 8) : X[2 + j * 6 + 2]? = some (.int .i64 (lnAt (oLines X) j).got) := by
 obtain ⟨_, _, hf, hl, ho⟩ := order_parts h
 have h1 := lnAt_cells hf hj
 have h2 : ((((oLines X).drop (j * 6)).take 6))[2]? = some (.int .i64 (lnAt (oLines X) j).got) := by rw [h1]; rfl
 obtain ⟨g, hg⟩ : ∃ g, (lnAt (oLines X) j).got = g := ⟨_, rfl⟩
 rw [hg] at h2 ⊢
 rw [List.getElem?_take, if_pos (by decide), List.getElem?_drop, ho, List.getElem?_drop] at h2
 rw [← h2]
 congr 1
theorem got_alcX {L : HL} {X : List Value} (h : Fits kOrder X) (s : ByteArray) {j : Nat} (hj : j < 8) : ∀ k, k ≤ 8 → (lnAt (oLines (alcX L X s k)) j).got = (lnAt (oLines X) j).got
 | 0, _ => rfl
 | k + 1, hk => by
  have ih := got_alcX (L := L) h s hj k (by omega)
  have hf := alcX_fits (L := L) h s k (by omega)
  unfold alcX
  split
  · exact ih
  · obtain ⟨q, hq⟩ : ∃ q, lineB (alcM L X s k) X s k = q := ⟨_, rfl⟩
    rw [hq]
    have h1 := got_cell hf hj
    have h2 := got_cell (setBack_fits hf (by omega : k < 8) q) hj
    have h3 : (setBack (alcX L X s k) k q)[2 + j * 6 + 2]? = (alcX L X s k)[2 + j * 6 + 2]? := by
     unfold setBack
     exact List.getElem?_set_ne (by omega)
    rw [h3, h1] at h2
    injection h2 with h2
    injection h2 with _ h2
    exact h2.symm.trans ih
theorem drop_back {L : HL} {s : ByteArray} (h7 : Things kOrder (L 7)) (h8 : Things kClaim (L 8)) (hQ : PlainQ (L 4)) (hc : ∀ e ∈ L 8, ofOrd s e = false) (hg : ∀ j, j < 8 → (lnAt (oLines (gotOrder (L 7) s)) j).got = 0) (he : allE L s = 0) :
  (atOrder (L 7) s).isSome = true ∧ dropE (allM L s) s = 0 ∧ dropM (allM L s) s 4 = L 4 ∧ dropM (allM L s) s 8 = L 8 ∧ (dropM (allM L s) s 7).length + 1 = (L 7).length := by
 unfold allE at he
 have hs : (atOrder (L 7) s).isSome = true := by
  cases hc : (atOrder (L 7) s).isSome with
  | true => rfl
  | false => rw [hc] at he; simp at he
 rw [if_neg (by rw [hs]; simp)] at he
 obtain ⟨X, hX⟩ : ∃ X, gotOrder (L 7) s = X := ⟨_, rfl⟩
 have hXf : Fits kOrder X := hX ▸ gotOrder_fits h7 s
 have hXc : codeOf X = s := hX ▸ gotOrder_code hs
 rw [hX] at hg he
 have hI0 := (InvA.start hQ h8 hc).lines hQ X (fun M _ k => pick_one M X s k) 8 he
 obtain ⟨M, hM⟩ : ∃ M, allM L s = M := ⟨_, rfl⟩
 obtain ⟨Y, hY⟩ : ∃ Y, alcX L X s 8 = Y := ⟨_, rfl⟩
 have m4 : M 4 = alcM L X s 8 4 := by rw [← hM]; unfold allM; rw [hX, setE_off rfl _ (by decide)]
 have m8 : M 8 = alcM L X s 8 8 := by rw [← hM]; unfold allM; rw [hX, setE_off rfl _ (by decide)]
 have m7 : M 7 = putG ordOrder (L 7) Y := by rw [← hM]; unfold allM; rw [hX, setE_at rfl, hY]
 have hI := hI0.congr m4 m8
 have hYc : codeOf Y = s := by rw [← hY, (alcX_head L X s 8).2]; exact hXc
 obtain ⟨o1, o2, o3⟩ := order_again hs hYc
 rw [← m7] at o1 o2 o3
 obtain ⟨f1, f2⟩ := hI.freed hQ
 have hb : begunX Y = false := by
  unfold begunX
  rw [List.any_eq_false]
  intro i hi
  rw [← hY, got_alcX hXf s (List.mem_range.1 hi) 8 (Nat.le_refl _), hg i (List.mem_range.1 hi)]
  simp
 rw [hM]
 refine ⟨hs, ?_, ?_, ?_, ?_⟩
 · unfold dropE
   rw [if_neg (by rw [o1]; simp), o2, hb, hI.idle, if_neg (by simp)]
   exact f1
 · unfold dropM
   rw [setE_off rfl _ (by decide)]
   exact f2
 · unfold dropM
   rw [setE_off rfl _ (by decide), rel_filter]
   exact hI.rest
 · unfold dropM
   rw [setE_at rfl, o2]
   exact o3
end Go.Proofs.YtlkmccmbpnbgbaaGreat
