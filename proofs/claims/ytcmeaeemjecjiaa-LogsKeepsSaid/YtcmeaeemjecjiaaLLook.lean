/-
  PLAIN MATHEMATICS of layer 5: what is found at each place of a log's medium; how many sectors a log has.
-/
import Derived.Test.YtcmeaeemjecjiaaLPlain
namespace Go.Proofs.Ytcmeaeemjecjiaa.Pl

/-- One segment. -/
structure Seg (T : Md) (f n : Nat) (ds : List ByteArray) : Prop where
  at_ : At T f 0 (segL n ds)
  le : (segL n ds).length ≤ 16
  size : ∀ d ∈ ds, d.size ≤ 440

/-- Where the frame after i ones begins. -/
def offs (n : Nat) (ds : List ByteArray) (i : Nat) : Nat := (segL n (ds.take i)).length
theorem offs_zero (n : Nat) (ds : List ByteArray) : offs n ds 0 = 0 := by simp [offs, segL]
theorem offs_full (n : Nat) (ds : List ByteArray) : offs n ds ds.length = (segL n ds).length := by simp [offs]
theorem segL_len_cons (n : Nat) (d : ByteArray) (r : List ByteArray) : (segL n (d :: r)).length = partsN d.size + (segL (n + 1) r).length := by simp [segL, secs_length]
theorem offs_succ (n : Nat) (ds : List ByteArray) (i : Nat) (hi : i < ds.length) : offs n ds (i + 1) = offs n ds i + partsN ds[i].size := by
  unfold offs
  rw [List.take_succ_eq_append_getElem hi, segL_snoc, List.length_append, secs_length]
theorem segL_app (n : Nat) (a b : List ByteArray) : segL n (a ++ b) = segL n a ++ segL (n + a.length) b := by
  induction a generalizing n with
  | nil => simp [segL]
  | cons x r ih => simp only [List.cons_append, segL, ih, List.append_assoc, List.length_cons]; rw [show n + 1 + r.length = n + (r.length + 1) from by omega]
theorem offs_le (n : Nat) (ds : List ByteArray) (i : Nat) : offs n ds i ≤ (segL n ds).length := by
  unfold offs
  have : segL n ds = segL n (ds.take i) ++ segL (n + (ds.take i).length) (ds.drop i) := by rw [← segL_app, List.take_append_drop]
  rw [this, List.length_append]
  omega
/-- Whoever lies in a segment is met there. -/
theorem Seg.look {T : Md} {f n : Nat} {ds : List ByteArray} (h : Seg T f n ds) (hn1 : 1 ≤ n) (hn2 : n + ds.length ≤ 2147483648) (i : Nat) (hi : i < ds.length) :
    stands T f (offs n ds i) = some (n + i, ds[i].data.toList, partsN ds[i].size) ∧ offs n ds i + partsN ds[i].size ≤ 16 := by
  have e : segL n ds = segL n (ds.take i) ++ (secs (n + i) ds[i] ++ segL (n + i + 1) (ds.drop (i + 1))) := by
    have h1 : ds = ds.take i ++ (ds[i] :: ds.drop (i + 1)) := by rw [← List.drop_eq_getElem_cons hi, List.take_append_drop]
    have hl : (ds.take i).length = i := by rw [List.length_take]; omega
    calc segL n ds = segL n (ds.take i ++ (ds[i] :: ds.drop (i + 1))) := by rw [← h1]
      _ = _ := by rw [segL_app, hl]; rfl
  have hat := h.at_
  rw [e] at hat
  have h2 := hat.right.left
  rw [Nat.zero_add] at h2
  have hle : offs n ds i + partsN ds[i].size ≤ 16 := by rw [← offs_succ n ds i hi]; exact Nat.le_trans (offs_le _ _ _) h.le
  exact ⟨stands_secs h2 (by omega) (by omega) (h.size _ (List.getElem_mem hi)) hle, hle⟩

theorem Full.seg {T : Md} : ∀ {pre : List (List ByteArray)} {lo n : Nat}, Full T lo n pre → ∀ (j : Nat) (ds : List ByteArray), pre[j]? = some ds →
    Seg T (lo + j) (n + cnt (pre.take j)) ds ∧ 9 ≤ (segL (n + cnt (pre.take j)) ds).length ∧ Clean T (lo + j) (segL (n + cnt (pre.take j)) ds).length (n + cnt (pre.take j) + ds.length) := by
  intro pre
  induction pre with
  | nil => intro lo n _ j ds hj; simp at hj
  | cons c r ih =>
    intro lo n h j ds hj
    obtain ⟨⟨h1, h2, h3, h4, h5⟩, hr⟩ := h
    cases j with
    | zero =>
      simp at hj
      subst hj
      exact ⟨⟨h1, h3, h4⟩, h2, h5⟩
    | succ j =>
      have := ih hr j ds (by simpa using hj)
      rw [List.take_succ_cons, cnt_cons, show n + (c.length + cnt (r.take j)) = n + c.length + cnt (r.take j) from by omega, show lo + (j + 1) = lo + 1 + j from by omega]
      exact this
theorem cnt_take_succ {pre : List (List ByteArray)} {j : Nat} {ds : List ByteArray} (h : pre[j]? = some ds) : cnt (pre.take (j + 1)) = cnt (pre.take j) + ds.length := by
  have hj : j < pre.length := (List.getElem?_eq_some_iff.1 h).1
  rw [List.take_succ_eq_append_getElem hj, cnt_snoc, (List.getElem?_eq_some_iff.1 h).2]
theorem cnt_take_le (pre : List (List ByteArray)) : ∀ j, cnt (pre.take j) ≤ cnt pre := by
  induction pre with
  | nil => intro j; simp
  | cons c r ih =>
    intro j
    cases j with
    | zero => simp [cnt]
    | succ j => rw [List.take_succ_cons, cnt_cons, cnt_cons]; have := ih j; omega
theorem seg_some {n : Nat} {ds : List ByteArray} (h : 9 ≤ (segL n ds).length) : ds ≠ [] := by
  rintro rfl
  simp [segL] at h

section
variable {T : Md} {lo n : Nat} {pre : List (List ByteArray)} {cur : List ByteArray}
/-- All segments, the tail's too. -/
theorem Inv.segs (h : Inv T lo n pre cur) (j : Nat) (ds : List ByteArray) (hj : (pre ++ [cur])[j]? = some ds) : Seg T (lo + j) (n + cnt ((pre ++ [cur]).take j)) ds := by
  by_cases hl : j < pre.length
  · rw [List.getElem?_append_left hl] at hj
    rw [List.take_append_of_le_length (by omega)]
    exact (h.full.seg j ds hj).1
  · rw [List.getElem?_append_right (by omega)] at hj
    have hj0 : j - pre.length = 0 := by
      rcases Nat.eq_zero_or_pos (j - pre.length) with h0 | h0
      · exact h0
      · rw [List.getElem?_eq_none (by simp; omega)] at hj; cases hj
    rw [hj0] at hj
    simp at hj
    subst hj
    have : j = pre.length := by omega
    subst this
    rw [List.take_left]
    exact ⟨h.at_, h.le, h.size⟩
/-- Behind a segment's last frame stands none that could follow; the next segment begins with the one that follows. -/
theorem Inv.edge (h : Inv T lo n pre cur) (j : Nat) (ds : List ByteArray) (hj : pre[j]? = some ds) :
    (∀ m x k, stands T (lo + j) (segL (n + cnt (pre.take j)) ds).length = some (m, x, k) → m ≠ n + cnt (pre.take (j + 1))) ∧
    ∃ d r, (pre ++ [cur])[j + 1]? = some (d :: r) ∧ stands T (lo + j + 1) 0 = some (n + cnt (pre.take (j + 1)), d.data.toList, partsN d.size) ∧ partsN d.size ≤ 16 := by
  obtain ⟨_, _, hc⟩ := h.full.seg j ds hj
  have hjl : j < pre.length := (List.getElem?_eq_some_iff.1 hj).1
  have hcn := cnt_take_succ hj
  refine ⟨fun m x k hs => by rw [hcn, ← Nat.add_assoc]; exact hc.stands hs, ?_⟩
  obtain ⟨ds', hds'⟩ : ∃ ds', (pre ++ [cur])[j + 1]? = some ds' := ⟨_, List.getElem?_eq_getElem (by simp; omega)⟩
  have hsg := h.segs (j + 1) ds' hds'
  have hne : ds' ≠ [] := by
    by_cases hl : j + 1 < pre.length
    · rw [List.getElem?_append_left hl] at hds'
      exact seg_some (h.full.seg (j + 1) ds' hds').2.1
    · rw [List.getElem?_append_right (by omega), show j + 1 - pre.length = 0 from by omega] at hds'
      simp at hds'
      subst hds'
      exact h.some_ (by intro e; rw [e] at hjl; simp at hjl)
  obtain ⟨d, r, rfl⟩ : ∃ d r, ds' = d :: r := by cases ds' with | nil => exact absurd rfl hne | cons d r => exact ⟨d, r, rfl⟩
  have ht : (pre ++ [cur]).take (j + 1) = pre.take (j + 1) := List.take_append_of_le_length (by omega)
  rw [ht] at hsg
  have hsm := h.small
  have hb : cnt (pre.take (j + 1)) + (d :: r).length ≤ cnt pre + cur.length := by
    have h1 := cnt_take_le (pre ++ [cur]) (j + 1 + 1)
    rw [cnt_take_succ hds', ht, cnt_snoc] at h1
    exact h1
  have hlk := hsg.look (by have := h.n1; omega) (by omega) 0 (by simp)
  rw [offs_zero] at hlk
  exact ⟨d, r, hds', by simpa [Nat.add_assoc] using hlk.1, by simpa using hlk.2⟩
/-- At the tail stands none that could follow, nor in the next segment. -/
theorem Inv.tail (h : Inv T lo n pre cur) : (∀ m x k, stands T (lo + pre.length) (segL (n + cnt pre) cur).length = some (m, x, k) → m ≠ n + cnt pre + cur.length) ∧
    (∀ m x k, stands T (lo + pre.length + 1) 0 = some (m, x, k) → m ≠ n + cnt pre + cur.length) := ⟨fun _ _ _ hs => h.clean.stands hs, fun _ _ _ hs => h.clean1.stands hs⟩
/-- A log without frames: none is found. -/
theorem Inv.bare (h : Inv T lo n [] []) : stands T 2 0 = none := by
  obtain ⟨e1, e2, _⟩ := h.none_ rfl rfl
  subst e1 e2
  cases hs : stands T 2 0 with
  | none => rfl
  | some q =>
    obtain ⟨m, x, k⟩ := q
    exfalso
    obtain ⟨h1, s, d, h2, h3⟩ := stands_last hs
    have hl := h.low
    have hc := h.clean
    simp [segL, cnt] at hl hc
    have h4 := hl (0 + (k - 1)) s _ _ _ _ (Nat.zero_le _) h2 h3
    have h5 : 1 ≤ m := by
      unfold stands at hs
      exact (lay_join hs).1
    obtain rfl : m = 1 := by omega
    exact hc k s d h1 h2 h3
end
end Go.Proofs.Ytcmeaeemjecjiaa.Pl
