/-
  PLAIN MATHEMATICS of layer 5: how many sectors a log has, and what its frames need.
-/
import Derived.Test.YtcmeaeemjecjiaaLCon
namespace Go.Proofs.Ytcmeaeemjecjiaa

def szTo (T : Pl.Md) (f m : Nat) : Nat := (List.range m).foldl (fun k a => if (T f a).isSome then a + 1 else k) 0
theorem szN_eq (T : Pl.Md) (f : Nat) : szN T f = szTo T f 16 := rfl
theorem szTo_succ (T : Pl.Md) (f m : Nat) : szTo T f (m + 1) = if (T f m).isSome then m + 1 else szTo T f m := by
  unfold szTo
  rw [List.range_succ, List.foldl_append]
  rfl
theorem szTo_le (T : Pl.Md) (f : Nat) : ∀ m, szTo T f m ≤ m := by
  intro m
  induction m with
  | zero => exact Nat.le_refl _
  | succ m ih => rw [szTo_succ]; split <;> omega
theorem szTo_up (T : Pl.Md) (f : Nat) : ∀ m a, a < m → (T f a).isSome = true → a + 1 ≤ szTo T f m := by
  intro m
  induction m with
  | zero => intro a h; omega
  | succ m ih =>
    intro a h hs
    rw [szTo_succ]
    by_cases hm : (T f m).isSome = true
    · rw [if_pos hm]; omega
    · rw [if_neg hm]
      have : a ≠ m := by rintro rfl; exact hm hs
      exact ih a (by omega) hs
theorem szTo_top (T : Pl.Md) (f : Nat) : ∀ m, szTo T f m = 0 ∨ ∃ a, a < m ∧ (T f a).isSome = true ∧ szTo T f m = a + 1 := by
  intro m
  induction m with
  | zero => exact .inl rfl
  | succ m ih =>
    rw [szTo_succ]
    by_cases hm : (T f m).isSome = true
    · rw [if_pos hm]; exact .inr ⟨m, by omega, hm, rfl⟩
    · rw [if_neg hm]
      rcases ih with h | ⟨a, h1, h2, h3⟩
      · exact .inl h
      · exact .inr ⟨a, by omega, h2, h3⟩
/-- It is what media.Size says, where no sector lies beyond a segment. -/
theorem szN_is {s : St} {f : Nat} {r : Int} (h : IsSz (s.S (f : Int)) r) (hd : ∀ a d, s.S (f : Int) a = some d → 0 ≤ a ∧ a < 16) : r = (szN (mdT s) f : Nat) := by
  rw [szN_eq]
  have h1 := h.nn
  have hup : r ≤ (szTo (mdT s) f 16 : Nat) := by
    rcases h.top with h0 | ⟨a, ha, h0⟩
    · omega
    · obtain ⟨d, hd'⟩ := Option.isSome_iff_exists.1 ha
      obtain ⟨a0, a1⟩ := hd a d hd'
      obtain ⟨k, rfl⟩ := Int.eq_ofNat_of_zero_le a0
      have := szTo_up (mdT s) f 16 k (by omega) ha
      omega
  rcases szTo_top (mdT s) f 16 with h0 | ⟨a, _, ha, h0⟩
  · omega
  · have := h.up (a : Int) ha
    omega
theorem szN_le (T : Pl.Md) (f : Nat) : szN T f ≤ 16 := by rw [szN_eq]; exact szTo_le T f 16
theorem szN_full {T : Pl.Md} {f : Nat} {l : List ByteArray} (h : Pl.At T f 0 l) (hl : l.length = 16) : szN T f = 16 := by
  have h1 := szN_le T f
  have h2 := h 15 _ (List.getElem?_eq_getElem (by omega))
  rw [Nat.zero_add] at h2
  rw [szN_eq] at h1 ⊢
  have := szTo_up T f 16 15 (by omega) (by rw [h2]; rfl)
  omega
theorem secN_le (T : Pl.Md) (lo k e : Nat) : secN T lo k e ≤ 16 * k + e := by
  unfold secN
  suffices h : ∀ (l : List Nat), (l.map fun j => szN T (lo + j)).sum ≤ 16 * l.length from by
    have := h (List.range k)
    rw [List.length_range] at this
    omega
  intro l
  induction l with
  | nil => simp
  | cons a r ih =>
    have := szN_le T (lo + a)
    simp only [List.map_cons, List.sum_cons, List.length_cons]
    omega

/-- What the frames above z need. -/
def needN (z : Int) (n : Nat) : List ByteArray → Nat
  | [] => 0
  | d :: r => (if z < (n : Int) then Pl.partsN d.size + 7 else 0) + needN z (n + 1) r
theorem needN_app (z : Int) (a b : List ByteArray) : ∀ n, needN z n (a ++ b) = needN z n a + needN z (n + a.length) b := by
  induction a with
  | nil => intro n; simp [needN]
  | cons d r ih =>
    intro n
    simp only [List.cons_append, needN, ih, List.length_cons]
    rw [show n + 1 + r.length = n + (r.length + 1) from by omega]
    omega
theorem needN_above {z : Int} : ∀ {ds : List ByteArray} {n : Nat}, z < (n : Int) → needN z n ds = (Pl.segL n ds).length + 7 * ds.length := by
  intro ds
  induction ds with
  | nil => intro n _; rfl
  | cons d r ih =>
    intro n h
    simp only [needN, Pl.segL, List.length_append, Pl.secs_length, List.length_cons]
    rw [if_pos h, ih (by omega)]
    omega
theorem need_full {T : Pl.Md} {z : Int} : ∀ {pre : List (List ByteArray)} {lo n : Nat}, Pl.Full T lo n pre → z < (n : Int) → 16 * pre.length ≤ needN z n pre.flatten := by
  intro pre
  induction pre with
  | nil => intro lo n _ _; simp
  | cons c r ih =>
    intro lo n h hz
    obtain ⟨⟨_, h2, _⟩, hr⟩ := h
    have hc : c ≠ [] := Pl.seg_some h2
    have h1 : 1 ≤ c.length := by cases c with | nil => exact absurd rfl hc | cons a b => simp
    have := ih hr (by omega)
    rw [List.flatten_cons, needN_app, needN_above hz]
    simp only [List.length_cons]
    omega
/-- No more sectors than the frames above z need, and two segments. -/
theorem keeps {T : Pl.Md} {lo nn : Nat} {pre : List (List ByteArray)} {cur : List ByteArray} {z : Int} (h : Pl.Inv T lo nn pre cur) (hz : pre ≠ [] → z + 1 < ((nn + Pl.cnt (pre.take 1) : Nat) : Int)) :
    secN T lo pre.length (Pl.segL (nn + Pl.cnt pre) cur).length ≤ needN z nn (flat pre cur) + 32 := by
  have h1 := secN_le T lo pre.length (Pl.segL (nn + Pl.cnt pre) cur).length
  have h2 := h.le
  cases pre with
  | nil =>
    simp only [List.length_nil] at h1 ⊢
    omega
  | cons c r =>
    have hz' := hz (by simp)
    rw [show (c :: r).take 1 = [c] from rfl] at hz'
    have hcc : Pl.cnt [c] = c.length := by simp [Pl.cnt]
    rw [hcc] at hz'
    have h3 := need_full h.full.2 (z := z) (by omega)
    have hf : flat (c :: r) cur = c ++ (r.flatten ++ cur) := by simp [flat]
    rw [hf, needN_app, needN_app]
    simp only [List.length_cons] at h1 ⊢
    omega
theorem needN_drop (z : Int) (l : List ByteArray) (n i : Nat) (hi : i ≤ l.length) : needN z (n + i) (l.drop i) ≤ needN z n l := by
  have : needN z n (l.take i ++ l.drop i) = needN z n (l.take i) + needN z (n + (l.take i).length) (l.drop i) := needN_app z _ _ n
  rw [List.take_append_drop, List.length_take, Nat.min_eq_left hi] at this
  omega
end Go.Proofs.Ytcmeaeemjecjiaa
