/-
  PLAIN MATHEMATICS of layer 4: sectors, frames, what a sector says, joining: lists of bytes alone.
-/
namespace Go.Proofs.Ytkcickbkmedbmaa.Pl

/-- The check of bytes, from a start. -/
def sumF (n : Nat) : List UInt8 → Nat
  | [] => n
  | c :: r => sumF ((n * 31 + c.toNat) % 65521) r
theorem sumF_append (a b : List UInt8) : ∀ n, sumF n (a ++ b) = sumF (sumF n a) b := by
  induction a with
  | nil => intro n; rfl
  | cons c r ih => intro n; simp only [List.cons_append, sumF]; exact ih _
theorem sumF_lt (l : List UInt8) : ∀ n, n < 65521 → sumF n l < 65521 := by
  induction l with
  | nil => intro n h; exact h
  | cons c r ih => intro n _; exact ih _ (Nat.mod_lt _ (by omega))
theorem sumF_snoc (n : Nat) (l : List UInt8) (c : UInt8) : sumF n (l ++ [c]) = (sumF n l * 31 + c.toNat) % 65521 := by
  rw [sumF_append]; rfl
theorem take_snoc (s : ByteArray) (k : Nat) (h : k < s.size) : s.data.toList.take (k + 1) = s.data.toList.take k ++ [s[k]] := by
  rw [List.take_succ_eq_append_getElem (by simpa using h)]; rfl
theorem length_toList (s : ByteArray) : s.data.toList.length = s.size := by rw [Array.length_toList]; rfl
theorem ext_take_drop (s : ByteArray) (a b : Nat) : s.extract a b = ⟨((s.data.toList.take b).drop a).toArray⟩ := by
  apply ByteArray.ext
  rw [ByteArray.data_extract]
  apply Array.ext'
  simp [List.extract_eq_take_drop, List.drop_take]
theorem ext_list (s : ByteArray) (a b : Nat) : (s.extract a b).data.toList = (s.data.toList.take b).drop a := by rw [ext_take_drop]
theorem ba_ext {a b : ByteArray} (h : a.data.toList = b.data.toList) : a = b := ByteArray.ext (Array.ext' h)
theorem ba_mk (a : ByteArray) : (⟨a.data.toList.toArray⟩ : ByteArray) = a := by apply ba_ext; simp

/-- A sector's bytes, but for its check. -/
def bodyL (n p k : Nat) (d : List UInt8) : List UInt8 :=
  [UInt8.ofNat (n / 16777216), UInt8.ofNat (n / 65536), UInt8.ofNat (n / 256), UInt8.ofNat n, UInt8.ofNat p, UInt8.ofNat k, UInt8.ofNat d.length] ++ (d ++ List.replicate (55 - d.length) 0)
def tailL (b : List UInt8) : List UInt8 := [UInt8.ofNat (sumF 1 b / 256), UInt8.ofNat (sumF 1 b)]
def secL (n p k : Nat) (d : List UInt8) : List UInt8 := bodyL n p k d ++ tailL (bodyL n p k d)
/-- A part's sector. -/
def secB (n p k : Nat) (d : ByteArray) : ByteArray := ⟨(secL n p k d.data.toList).toArray⟩

theorem bodyL_length (n p k : Nat) (d : List UInt8) (hd : d.length ≤ 55) : (bodyL n p k d).length = 62 := by
  simp [bodyL]; omega
theorem secL_length (n p k : Nat) (d : List UInt8) (hd : d.length ≤ 55) : (secL n p k d).length = 64 := by
  simp [secL, bodyL_length n p k d hd, tailL]
theorem secB_size (n p k : Nat) (d : ByteArray) (hd : d.size ≤ 55) : (secB n p k d).size = 64 := by
  show (secL n p k d.data.toList).toArray.size = 64
  rw [List.size_toArray, secL_length]; rw [length_toList]; exact hd

/-- Byte i. -/
def byteAt (s : ByteArray) (i : Nat) : Nat := (s.data.toList.getD i 0).toNat
theorem byteAt_lt (s : ByteArray) (i : Nat) : byteAt s i < 256 := UInt8.toNat_lt _
theorem byteAt_get (s : ByteArray) (i : Nat) (h : i < s.size) : s[i].toNat = byteAt s i := by
  unfold byteAt
  rw [List.getD_eq_getElem?_getD, List.getElem?_eq_getElem (by simpa using h)]; rfl
/-- The first four bytes, as a number. -/
def numB (s : ByteArray) : Nat := byteAt s 0 * 16777216 + byteAt s 1 * 65536 + byteAt s 2 * 256 + byteAt s 3

/-- Is there such a part, of so many bytes? -/
def okB (n p k m : Nat) : Bool := decide (1 ≤ n) && decide (n ≤ 2147483647) && decide (k ≤ 8) && decide (p < k) && (if p + 1 < k then decide (m = 55) else decide (m ≠ 0) || decide (k = 1))
theorem okB_iff (n p k m : Nat) : okB n p k m = true ↔ 1 ≤ n ∧ n ≤ 2147483647 ∧ k ≤ 8 ∧ p < k ∧ (p + 1 < k → m = 55) ∧ (p + 1 = k → m = 0 → k = 1) := by
  unfold okB
  by_cases h : p + 1 < k
  · simp [h]; omega
  · simp [h]; omega

/-- What a sector says. -/
def tellF (s : ByteArray) : Option (Nat × Nat × Nat × ByteArray) :=
  if s.size = 64 ∧ byteAt s 6 ≤ 55 ∧ okB (numB s) (byteAt s 4) (byteAt s 5) (byteAt s 6) = true ∧ secB (numB s) (byteAt s 4) (byteAt s 5) (s.extract 7 (7 + byteAt s 6)) = s then
    some (numB s, byteAt s 4, byteAt s 5, s.extract 7 (7 + byteAt s 6)) else none

theorem ext_size (s : ByteArray) (a b : Nat) (hb : b ≤ s.size) : (s.extract a b).size = b - a := by
  rw [← length_toList, ext_list, List.length_drop, List.length_take, length_toList]; omega

theorem tell_sec (n p k : Nat) (d : ByteArray) (hok : okB n p k d.size = true) (hd : d.size ≤ 55) : tellF (secB n p k d) = some (n, p, k, d) := by
  obtain ⟨h1, h2, h3, h4, _, _⟩ := (okB_iff _ _ _ _).1 hok
  have hl : d.data.toList.length = d.size := length_toList d
  have e : (secB n p k d).data.toList = [UInt8.ofNat (n / 16777216), UInt8.ofNat (n / 65536), UInt8.ofNat (n / 256), UInt8.ofNat n, UInt8.ofNat p, UInt8.ofNat k, UInt8.ofNat d.size] ++ (d.data.toList ++ (List.replicate (55 - d.size) 0 ++ tailL (bodyL n p k d.data.toList))) := by
    show (secL n p k d.data.toList).toArray.toList = _
    simp [secL, bodyL, hl]
  have b : ∀ i, byteAt (secB n p k d) i = (((secB n p k d).data.toList).getD i 0).toNat := fun i => rfl
  have b0 : byteAt (secB n p k d) 0 = n / 16777216 % 256 := by rw [b, e]; simp [UInt8.toNat_ofNat']
  have b1 : byteAt (secB n p k d) 1 = n / 65536 % 256 := by rw [b, e]; simp [UInt8.toNat_ofNat']
  have b2 : byteAt (secB n p k d) 2 = n / 256 % 256 := by rw [b, e]; simp [UInt8.toNat_ofNat']
  have b3 : byteAt (secB n p k d) 3 = n % 256 := by rw [b, e]; simp [UInt8.toNat_ofNat']
  have b4 : byteAt (secB n p k d) 4 = p := by rw [b, e]; simp [UInt8.toNat_ofNat']; omega
  have b5 : byteAt (secB n p k d) 5 = k := by rw [b, e]; simp [UInt8.toNat_ofNat']; omega
  have b6 : byteAt (secB n p k d) 6 = d.size := by rw [b, e]; simp [UInt8.toNat_ofNat']; omega
  have hn : numB (secB n p k d) = n := by unfold numB; rw [b0, b1, b2, b3]; omega
  have hx : (secB n p k d).extract 7 (7 + d.size) = d := by
    apply ba_ext
    rw [ext_list, e, Nat.add_comm]
    simp only [List.cons_append, List.nil_append, List.take_succ_cons, List.drop_succ_cons, List.drop_zero]
    rw [← hl, List.take_left]
  unfold tellF
  rw [hn, b4, b5, b6, hx, if_pos ⟨secB_size n p k d hd, hd, hok, rfl⟩]

theorem tell_inv {s : ByteArray} {n p k : Nat} {d : ByteArray} (h : tellF s = some (n, p, k, d)) : secB n p k d = s ∧ okB n p k d.size = true ∧ d.size ≤ 55 ∧ s.size = 64 := by
  unfold tellF at h
  split at h
  · rename_i hc
    obtain ⟨h1, h2, h3, h4⟩ := hc
    simp only [Option.some.injEq, Prod.mk.injEq] at h
    obtain ⟨rfl, rfl, rfl, rfl⟩ := h
    have hs : (s.extract 7 (7 + byteAt s 6)).size = byteAt s 6 := by rw [ext_size _ _ _ (by omega)]; omega
    rw [hs]
    exact ⟨h4, h3, h2, h1⟩
  · cases h

/-! ### frames -/
def partsN (len : Nat) : Nat := max 1 ((len + 54) / 55)
def piece (data : ByteArray) (i : Nat) : ByteArray := data.extract (i * 55) (min ((i + 1) * 55) data.size)
def secs (n : Nat) (data : ByteArray) : List ByteArray := (List.range (partsN data.size)).map fun i => secB n i (partsN data.size) (piece data i)
/-- A frame's sectors. -/
def layF (n : Int) (data : ByteArray) : Option (List ByteArray) := if 1 ≤ n ∧ n ≤ 2147483647 ∧ data.size ≤ 440 then some (secs n.toNat data) else none

theorem partsN_pos (len : Nat) : 1 ≤ partsN len := by unfold partsN; omega
theorem partsN_le {len : Nat} (h : len ≤ 440) : partsN len ≤ 8 := by unfold partsN; omega
theorem partsN_up (len : Nat) : len ≤ partsN len * 55 := by unfold partsN; omega
theorem partsN_lo (len : Nat) : partsN len = 1 ∨ (partsN len - 1) * 55 < len := by unfold partsN; omega
theorem partsN_eq {len k : Nat} (h1 : 1 ≤ k) (h2 : len ≤ k * 55) (h3 : k = 1 ∨ (k - 1) * 55 < len) : partsN len = k := by unfold partsN; omega
theorem secs_length (n : Nat) (data : ByteArray) : (secs n data).length = partsN data.size := by simp [secs]
theorem secs_get (n : Nat) (data : ByteArray) (i : Nat) (h : i < partsN data.size) : (secs n data)[i]? = some (secB n i (partsN data.size) (piece data i)) := by
  simp [secs, h]
theorem piece_size (data : ByteArray) (i : Nat) (h : i * 55 ≤ data.size) : (piece data i).size = min 55 (data.size - i * 55) := by
  unfold piece
  rw [ext_size _ _ _ (by omega)]; omega
theorem piece_list (data : ByteArray) (i : Nat) : (piece data i).data.toList = (data.data.toList.drop (i * 55)).take 55 := by
  unfold piece
  rw [ext_list, List.drop_take]
  have hl := length_toList data
  rw [List.take_eq_take_iff]
  simp [hl]; omega
theorem piece_ok (n : Nat) (data : ByteArray) (i : Nat) (hn1 : 1 ≤ n) (hn2 : n ≤ 2147483647) (hs : data.size ≤ 440) (h : i < partsN data.size) :
    okB n i (partsN data.size) (piece data i).size = true ∧ (piece data i).size ≤ 55 := by
  have h1 := partsN_up data.size
  have h2 := partsN_lo data.size
  have h3 := partsN_le hs
  have h4 : i * 55 ≤ data.size := by
    rcases h2 with h2 | h2
    · rw [h2] at h; omega
    · have : i ≤ partsN data.size - 1 := by omega
      have := Nat.mul_le_mul_right 55 this
      omega
  rw [piece_size _ _ h4]
  refine ⟨(okB_iff _ _ _ _).2 ⟨hn1, hn2, h3, h, fun hlt => ?_, fun he h0 => ?_⟩, by omega⟩
  · rcases h2 with h2 | h2
    · omega
    · have : i + 1 ≤ partsN data.size - 1 := by omega
      have := Nat.mul_le_mul_right 55 this
      omega
  · rcases h2 with h2 | h2
    · exact h2
    · rw [← he] at h2
      simp at h2
      omega
theorem tell_secs (n : Nat) (data : ByteArray) (i : Nat) (hn1 : 1 ≤ n) (hn2 : n ≤ 2147483647) (hs : data.size ≤ 440) (h : i < partsN data.size) :
    tellF (secB n i (partsN data.size) (piece data i)) = some (n, i, partsN data.size, piece data i) :=
  tell_sec _ _ _ _ (piece_ok n data i hn1 hn2 hs h).1 (piece_ok n data i hn1 hn2 hs h).2

/-! ### joining -/
def joinL (n k : Nat) : Nat → List ByteArray → Option (List UInt8)
  | _, [] => some []
  | i, s :: r => match tellF s with
    | some (n', p, k', d) => if n' = n ∧ p = i ∧ k' = k then (joinL n k (i + 1) r).map (d.data.toList ++ ·) else none
    | none => none
/-- The frame that sectors begin with. -/
def joinF (l : List ByteArray) : Option (Nat × List UInt8 × Nat) :=
  match l with
  | [] => none
  | s :: _ => match tellF s with
    | some (n, _, k, _) => if k ≤ l.length then (joinL n k 0 (l.take k)).map fun d => (n, d, k) else none
    | none => none

theorem joinL_cons_some {n k i : Nat} {s : ByteArray} {r : List ByteArray} {d : ByteArray} (h : tellF s = some (n, i, k, d)) : joinL n k i (s :: r) = (joinL n k (i + 1) r).map (d.data.toList ++ ·) := by
  simp [joinL, h]
theorem joinL_cons_none {n k i : Nat} {s : ByteArray} {r : List ByteArray} (h : ∀ d, tellF s ≠ some (n, i, k, d)) : joinL n k i (s :: r) = none := by
  simp only [joinL]
  split
  · rename_i n' p k' d hs
    rw [if_neg]
    rintro ⟨rfl, rfl, rfl⟩
    exact h d hs
  · rfl
theorem joinL_tell {n k : Nat} : ∀ {i : Nat} {l : List ByteArray} {x : List UInt8}, joinL n k i l = some x → ∀ (j : Nat) (s : ByteArray), l[j]? = some s → ∃ d, tellF s = some (n, i + j, k, d) := by
  intro i l
  induction l generalizing i with
  | nil => intro x _ j s hs; simp at hs
  | cons s0 r ih =>
    intro x h j s hs
    by_cases hc : ∃ d, tellF s0 = some (n, i, k, d)
    · obtain ⟨d, hd⟩ := hc
      rw [joinL_cons_some hd] at h
      obtain ⟨y, hy, _⟩ := Option.map_eq_some_iff.1 h
      cases j with
      | zero => simp at hs; subst hs; exact ⟨d, hd⟩
      | succ j =>
        obtain ⟨d', hd'⟩ := ih hy j s (by simpa using hs)
        exact ⟨d', by rw [hd']; congr 2; simp; omega⟩
    · rw [joinL_cons_none (fun d hd => hc ⟨d, hd⟩)] at h
      cases h
/-- One part more. -/
theorem joinL_step {n k i : Nat} {l : List ByteArray} {s : ByteArray} {d : ByteArray} (acc : List UInt8) (hs : l[i]? = some s) (h : tellF s = some (n, i, k, d)) :
    (joinL n k i (l.drop i)).map (acc ++ ·) = (joinL n k (i + 1) (l.drop (i + 1))).map (acc ++ d.data.toList ++ ·) := by
  have hi : i < l.length := (List.getElem?_eq_some_iff.1 hs).1
  have e : l[i] = s := (List.getElem?_eq_some_iff.1 hs).2
  rw [List.drop_eq_getElem_cons hi, e, joinL_cons_some h, Option.map_map]
  congr 1
  funext x
  simp
theorem joinL_stop {n k i : Nat} {l : List ByteArray} {s : ByteArray} (acc : List UInt8) (hs : l[i]? = some s) (h : ∀ d, tellF s ≠ some (n, i, k, d)) :
    (joinL n k i (l.drop i)).map (acc ++ ·) = none := by
  have hi : i < l.length := (List.getElem?_eq_some_iff.1 hs).1
  have e : l[i] = s := (List.getElem?_eq_some_iff.1 hs).2
  rw [List.drop_eq_getElem_cons hi, e, joinL_cons_none h]
  rfl
theorem joinL_end {n k i : Nat} {l : List ByteArray} (acc : List UInt8) (h : l.length ≤ i) : (joinL n k i (l.drop i)).map (acc ++ ·) = some acc := by
  rw [List.drop_of_length_le h]
  simp [joinL]

theorem joinF_nil : joinF [] = none := rfl
theorem joinF_none {s : ByteArray} {r : List ByteArray} (h : tellF s = none) : joinF (s :: r) = none := by simp [joinF, h]
theorem joinF_some {s : ByteArray} {r : List ByteArray} {n p k : Nat} {d : ByteArray} (h : tellF s = some (n, p, k, d)) (hk : k ≤ (s :: r).length) : joinF (s :: r) = (joinL n k 0 ((s :: r).take k)).map fun d => (n, d, k) := by
  simp only [joinF, h, if_pos hk]
theorem joinF_short {s : ByteArray} {r : List ByteArray} {n p k : Nat} {d : ByteArray} (h : tellF s = some (n, p, k, d)) (hk : (s :: r).length < k) : joinF (s :: r) = none := by
  simp only [joinF, h]
  rw [if_neg (by omega)]
/-- Whose first part is not the first is none. -/
theorem joinF_part {s : ByteArray} {r : List ByteArray} {n p k : Nat} {d : ByteArray} (h : tellF s = some (n, p, k, d)) (hp : p ≠ 0) : joinF (s :: r) = none := by
  by_cases hk : k ≤ (s :: r).length
  · rw [joinF_some h hk]
    obtain ⟨_, hok, _, _⟩ := tell_inv h
    obtain ⟨_, _, _, h4, _⟩ := (okB_iff _ _ _ _).1 hok
    obtain ⟨k', rfl⟩ : ∃ k', k = k' + 1 := ⟨k - 1, by omega⟩
    rw [List.take_succ_cons, joinL_cons_none]
    · rfl
    · intro d' hd'
      rw [h] at hd'
      simp at hd'
      omega
  · exact joinF_short h (by omega)

/-! ### back and there -/
theorem joinL_secs (n : Nat) (data : ByteArray) (hn1 : 1 ≤ n) (hn2 : n ≤ 2147483647) (hs : data.size ≤ 440) : ∀ m i, i + m = partsN data.size →
    joinL n (partsN data.size) i ((List.range' i m).map fun i => secB n i (partsN data.size) (piece data i)) = some (data.data.toList.drop (i * 55)) := by
  intro m
  induction m with
  | zero =>
    intro i hi
    have h1 := partsN_up data.size
    have hl := length_toList data
    rw [List.drop_of_length_le (by rw [hl, show i = partsN data.size from by omega]; exact h1)]
    rfl
  | succ m ih =>
    intro i hi
    rw [List.range'_succ, List.map_cons, joinL_cons_some (tell_secs n data i hn1 hn2 hs (by omega)), ih (i + 1) (by omega)]
    simp only [Option.map_some, piece_list]
    rw [show (i + 1) * 55 = i * 55 + 55 from by omega, ← List.drop_drop, List.take_append_drop]

theorem join_lay {n : Nat} {data : ByteArray} (hn1 : 1 ≤ n) (hn2 : n ≤ 2147483647) (hs : data.size ≤ 440) (behind : List ByteArray) :
    joinF (secs n data ++ behind) = some (n, data.data.toList, partsN data.size) := by
  have hp := partsN_pos data.size
  have hlen := secs_length n data
  obtain ⟨m, hm⟩ : ∃ m, partsN data.size = m + 1 := ⟨partsN data.size - 1, by omega⟩
  have e : secs n data = secB n 0 (partsN data.size) (piece data 0) :: (secs n data).tail := by
    have h0 := secs_get n data 0 (by omega)
    cases hx : secs n data with
    | nil => rw [hx] at h0; simp at h0
    | cons a b => rw [hx] at h0; simp at h0; subst h0; rfl
  have ht := tell_secs n data 0 hn1 hn2 hs (by omega)
  have hj := joinL_secs n data hn1 hn2 hs (partsN data.size) 0 (by omega)
  rw [← List.range_eq_range'] at hj
  have hj' : joinL n (partsN data.size) 0 (secs n data) = some data.data.toList := by simpa [secs] using hj
  rw [e, List.cons_append, joinF_some ht (by rw [← List.cons_append, ← e, List.length_append, hlen]; omega), ← List.cons_append, ← e,
    show (secs n data ++ behind).take (partsN data.size) = secs n data from by rw [← hlen]; simp, hj']
  rfl

theorem join_torn {n : Nat} {data : ByteArray} (hn1 : 1 ≤ n) (hn2 : n ≤ 2147483647) (hs : data.size ≤ 440) (i : Nat) (hi : i < partsN data.size) : joinF ((secs n data).take i) = none := by
  have hlen := secs_length n data
  cases i with
  | zero => rfl
  | succ i =>
    have h0 := secs_get n data 0 (by omega)
    cases hx : secs n data with
    | nil => rw [hx] at h0; simp at h0
    | cons a b =>
      rw [hx] at h0 hlen
      simp at h0
      subst h0
      rw [List.take_succ_cons]
      refine joinF_short (tell_secs n data 0 hn1 hn2 hs (by omega)) ?_
      simp at hlen
      simp
      omega

theorem join_torn2 {n m : Nat} {data data2 : ByteArray} (hn1 : 1 ≤ n) (hn2 : n ≤ 2147483647) (hs : data.size ≤ 440) (hm1 : 1 ≤ m) (hm2 : m ≤ 2147483647) (hs2 : data2.size ≤ 440)
    (i : Nat) (h1 : 1 ≤ i) (hi : i < partsN data.size) (hi2 : i < partsN data2.size) (hne : ¬ (n = m ∧ partsN data.size = partsN data2.size)) : joinF ((secs n data).take i ++ (secs m data2).drop i) = none := by
  have hlen := secs_length n data
  have hlen2 := secs_length m data2
  have h0 := secs_get n data 0 (by omega)
  have hat : ((secs n data).take i ++ (secs m data2).drop i)[i]? = some (secB m i (partsN data2.size) (piece data2 i)) := by
    rw [List.getElem?_append_right (by simp; omega), List.length_take, hlen, List.getElem?_drop, show i + (i - min i (partsN data.size)) = i from by omega]
    exact secs_get m data2 i hi2
  cases hx : (secs n data).take i ++ (secs m data2).drop i with
  | nil => rfl
  | cons a b =>
    have ha : ((secs n data).take i ++ (secs m data2).drop i)[0]? = some (secB n 0 (partsN data.size) (piece data 0)) := by
      rw [List.getElem?_append_left (by simp; omega), List.getElem?_take_of_lt (by omega)]; exact h0
    rw [hx] at ha hat
    simp at ha
    subst ha
    have ht := tell_secs n data 0 hn1 hn2 hs (by omega)
    by_cases hk : partsN data.size ≤ (secB n 0 (partsN data.size) (piece data 0) :: b).length
    · rw [joinF_some ht hk]
      cases hj : joinL n (partsN data.size) 0 ((secB n 0 (partsN data.size) (piece data 0) :: b).take (partsN data.size)) with
      | none => rfl
      | some x =>
        exfalso
        obtain ⟨d, hd⟩ := joinL_tell hj i _ (by rw [List.getElem?_take_of_lt hi]; exact hat)
        rw [tell_secs m data2 i hm1 hm2 hs2 hi2] at hd
        simp at hd
        exact hne ⟨hd.1.symm, hd.2.1.symm⟩
    · exact joinF_short ht (by omega)

theorem joinL_shape {n k : Nat} : ∀ {l : List ByteArray} {i : Nat} {x : List UInt8}, l ≠ [] → i + l.length = k → joinL n k i l = some x →
    x.length ≤ l.length * 55 ∧ (k = 1 ∨ (l.length - 1) * 55 < x.length) ∧ (1 ≤ n ∧ n ≤ 2147483647 ∧ k ≤ 8) ∧ ∀ (j : Nat) (s : ByteArray), l[j]? = some s → s = secB n (i + j) k ⟨((x.drop (j * 55)).take 55).toArray⟩ := by
  intro l
  induction l with
  | nil => intro i x h; exact absurd rfl h
  | cons s r ih =>
    intro i x _ hik h
    obtain ⟨d, hd⟩ := joinL_tell h 0 s rfl
    rw [Nat.add_zero] at hd
    rw [joinL_cons_some hd] at h
    obtain ⟨y, hy, rfl⟩ := Option.map_eq_some_iff.1 h
    obtain ⟨he, hok, hd55, _⟩ := tell_inv hd
    obtain ⟨h1, h2, h3, h4, h5, h6⟩ := (okB_iff _ _ _ _).1 hok
    have hl := length_toList d
    cases r with
    | nil =>
      simp only [joinL, Option.some.injEq] at hy
      subst hy
      simp only [List.length_cons, List.length_nil] at hik
      simp only [List.append_nil, List.length_cons, List.length_nil]
      refine ⟨by omega, by omega, ⟨h1, h2, h3⟩, fun j s' hj => ?_⟩
      cases j with
      | zero =>
        simp at hj
        subst hj
        rw [← he]
        congr 1
        apply ba_ext
        simp
        rw [List.take_of_length_le (by omega)]
      | succ j => simp at hj
    | cons s2 r2 =>
      simp only [List.length_cons] at hik
      have hd5 := h5 (by omega)
      obtain ⟨a1, a2, _, a4⟩ := ih (i := i + 1) (by simp) (by simp; omega) hy
      refine ⟨by simp at a1 ⊢; omega, ?_, ⟨h1, h2, h3⟩, fun j s' hj => ?_⟩
      · rcases a2 with a2 | a2
        · exact .inl a2
        · right; simp at a2 ⊢; omega
      · cases j with
        | zero =>
          simp at hj
          subst hj
          rw [← he]
          congr 1
          apply ba_ext
          simp [List.take_append]
          rw [List.take_of_length_le (by omega), show 55 - d.size = 0 from by omega]
          simp
        | succ j =>
          have := a4 j s' (by simpa using hj)
          rw [this]
          congr 1
          · omega
          · have e1 : ((d.data.toList ++ y).drop ((j + 1) * 55)) = y.drop (j * 55) := by
              rw [List.drop_append, List.drop_of_length_le (by rw [hl, hd5]; omega), List.nil_append, hl, hd5, show (j + 1) * 55 - 55 = j * 55 from by omega]
            rw [e1]

theorem lay_join {l : List ByteArray} {n k : Nat} {x : List UInt8} (h : joinF l = some (n, x, k)) : 1 ≤ n ∧ n ≤ 2147483647 ∧ 1 ≤ k ∧ k ≤ l.length ∧ x.length ≤ 440 ∧ partsN x.length = k ∧ secs n ⟨x.toArray⟩ = l.take k := by
  cases l with
  | nil => cases h
  | cons s r =>
    cases ht : tellF s with
    | none => rw [joinF_none ht] at h; cases h
    | some q =>
      obtain ⟨n', p, k', d⟩ := q
      by_cases hk : k' ≤ (s :: r).length
      · rw [joinF_some ht hk] at h
        obtain ⟨y, hy, he⟩ := Option.map_eq_some_iff.1 h
        simp only [Prod.mk.injEq] at he
        obtain ⟨rfl, rfl, rfl⟩ := he
        obtain ⟨_, hok, _, _⟩ := tell_inv ht
        obtain ⟨_, _, _, hpk, _, _⟩ := (okB_iff _ _ _ _).1 hok
        have hlen : ((s :: r).take k').length = k' := by rw [List.length_take]; omega
        obtain ⟨a1, a2, ⟨b1, b2, b3⟩, a4⟩ := joinL_shape (by intro e; rw [e] at hlen; simp at hlen; omega) (by omega) hy
        rw [hlen] at a1 a2
        have hp : partsN y.length = k' := partsN_eq (by omega) a1 a2
        refine ⟨b1, b2, by omega, hk, by omega, hp, ?_⟩
        have hsz : (⟨y.toArray⟩ : ByteArray).size = y.length := by show y.toArray.size = _; simp
        apply List.ext_getElem?
        intro j
        by_cases hj : j < k'
        · rw [secs_get _ _ _ (by rw [hsz, hp]; exact hj), hsz, hp]
          have hjl : j < ((s :: r).take k').length := by omega
          rw [List.getElem?_eq_getElem hjl]
          congr 1
          rw [a4 j _ (List.getElem?_eq_getElem hjl), Nat.zero_add]
          congr 1
          apply ba_ext
          rw [piece_list]
        · rw [List.getElem?_eq_none (by rw [secs_length, hsz, hp]; omega), List.getElem?_eq_none (by omega)]
      · rw [joinF_short ht (by omega)] at h; cases h
end Go.Proofs.Ytkcickbkmedbmaa.Pl
