/-
  WHICH SEGMENTS A LOG HAS; CONTRACT of Sectors.
-/
import Derived.Test.YtcmeaeemjecjiaaLSegs
namespace Go.Proofs.Ytcmeaeemjecjiaa
open Go.RowKit Go.Maps

theorem rising_eq : ∀ {a b : List Int}, a.Pairwise (· < ·) → b.Pairwise (· < ·) → (∀ x, x ∈ a ↔ x ∈ b) → a = b := by
  intro a
  induction a with
  | nil =>
    intro b _ _ h
    cases b with
    | nil => rfl
    | cons y r => have := (h y).2 (List.mem_cons_self ..); cases this
  | cons x a ih =>
    intro b ha hb h
    cases b with
    | nil => have := (h x).1 (List.mem_cons_self ..); cases this
    | cons y b =>
      have ha' := List.pairwise_cons.1 ha
      have hb' := List.pairwise_cons.1 hb
      have hxy : x = y := by
        rcases List.mem_cons.1 ((h x).1 (List.mem_cons_self ..)) with e | e
        · exact e
        · rcases List.mem_cons.1 ((h y).2 (List.mem_cons_self ..)) with e2 | e2
          · exact e2.symm
          · have := hb'.1 x e; have := ha'.1 y e2; omega
      subst hxy
      rw [ih ha'.2 hb'.2 fun z => ?_]
      constructor
      · intro hz
        rcases List.mem_cons.1 ((h z).1 (List.mem_cons_of_mem _ hz)) with e | e
        · have := ha'.1 z hz; omega
        · exact e
      · intro hz
        rcases List.mem_cons.1 ((h z).2 (List.mem_cons_of_mem _ hz)) with e | e
        · have := hb'.1 z hz; omega
        · exact e

/-- k segments from lo on, and the tail's, if it is there. -/
def segsL (lo k : Nat) (te : Bool) : List Int := (List.range k).map (fun j => ((lo + j : Nat) : Int)) ++ (if te then [((lo + k : Nat) : Int)] else [])
theorem segsL_length (lo k : Nat) (te : Bool) : (segsL lo k te).length = k + (if te then 1 else 0) := by
  unfold segsL; cases te <;> simp
theorem segsL_get? (lo k : Nat) (te : Bool) (i : Nat) (h : i < k + (if te then 1 else 0)) : (segsL lo k te)[i]? = some ((lo + i : Nat) : Int) := by
  unfold segsL
  by_cases hi : i < k
  · rw [List.getElem?_append_left (by simpa using hi)]; simp [hi]
  · cases te with
    | false => simp at h; omega
    | true =>
      have : i = k := by simp at h; omega
      subst this
      rw [List.getElem?_append_right (by simp)]
      simp
theorem segsL_get (lo k : Nat) (te : Bool) (i : Nat) (h : i < (segsL lo k te).length) : (segsL lo k te)[i] = ((lo + i : Nat) : Int) := by
  have := segsL_get? lo k te i (by rwa [segsL_length] at h)
  exact (List.getElem?_eq_some_iff.1 this).2
theorem segsL_rises (lo k : Nat) (te : Bool) : (segsL lo k te).Pairwise (· < ·) := by
  rw [List.pairwise_iff_getElem]
  intro i j hi hj hij
  rw [segsL_get, segsL_get]
  omega
theorem segsL_mem (lo k : Nat) (te : Bool) (x : Int) : x ∈ segsL lo k te ↔ (∃ j, j < k ∧ x = ((lo + j : Nat) : Int)) ∨ (te = true ∧ x = ((lo + k : Nat) : Int)) := by
  unfold segsL
  rw [List.mem_append, List.mem_map]
  constructor
  · rintro (⟨j, hj, rfl⟩ | h)
    · exact .inl ⟨j, by simpa using hj, rfl⟩
    · cases te with
      | false => simp at h
      | true => exact .inr ⟨rfl, by simpa using h⟩
  · rintro (⟨j, hj, rfl⟩ | ⟨rfl, rfl⟩)
    · exact .inl ⟨j, by simpa using hj, rfl⟩
    · exact .inr (by simp)

section
variable {s : St} {n lo nn : Nat} {pre : List (List ByteArray)} {cur : List ByteArray}
theorem ex_nat (hg : s.Good n) {x : Int} (h2 : 2 ≤ x) (h : ∃ a d, s.S x a = some d) : ∃ f a : Nat, x = (f : Int) ∧ ∃ d, mdT s f a = some d := by
  obtain ⟨a, d, hd⟩ := h
  obtain ⟨⟨_, ha⟩, _⟩ := hg.dom x a d hd
  obtain ⟨f, rfl⟩ := Int.eq_ofNat_of_zero_le (show 0 ≤ x by omega)
  obtain ⟨a', rfl⟩ := Int.eq_ofNat_of_zero_le ha.1
  exact ⟨f, a', rfl, d, hd⟩
theorem pre_there (h : Pl.Inv (mdT s) lo nn pre cur) {j : Nat} (hj : j < pre.length) : ∃ d, mdT s (lo + j) 0 = some d := by
  obtain ⟨h1, h2, _⟩ := h.full.seg j _ (List.getElem?_eq_getElem hj)
  exact ⟨_, h1.at_ 0 _ (List.getElem?_eq_getElem (by omega))⟩
/-- The list of segments. -/
theorem segs_inv (hg : s.Good n) (h : Pl.Inv (mdT s) lo nn pre cur) {l : List Int} (hp : l.Pairwise (· < ·)) (hm : ∀ x, x ∈ l ↔ (2 ≤ x ∧ x ≤ ((lo + pre.length : Nat) : Int)) ∧ ∃ a d, s.S x a = some d) :
    ∃ te, l = segsL lo pre.length te ∧ (te = false → cur = []) := by
  have h2 := h.lo2
  by_cases ht : ∃ a d, s.S ((lo + pre.length : Nat) : Int) a = some d
  · refine ⟨true, rising_eq hp (segsL_rises _ _ _) fun x => ?_, fun h => by cases h⟩
    rw [hm, segsL_mem]
    constructor
    · rintro ⟨⟨x1, x2⟩, hx⟩
      obtain ⟨f, a, rfl, d, hd⟩ := ex_nat hg x1 hx
      by_cases hf : f < lo
      · rw [h.below f a (by omega) hf] at hd; cases hd
      · by_cases hf2 : f < lo + pre.length
        · exact .inl ⟨f - lo, by omega, by omega⟩
        · exact .inr ⟨rfl, by omega⟩
    · rintro (⟨j, hj, rfl⟩ | ⟨_, rfl⟩)
      · obtain ⟨d, hd⟩ := pre_there h hj
        exact ⟨⟨by omega, by omega⟩, ((0 : Nat) : Int), d, hd⟩
      · exact ⟨⟨by omega, by omega⟩, ht⟩
  · refine ⟨false, rising_eq hp (segsL_rises _ _ _) fun x => ?_, fun _ => ?_⟩
    · rw [hm, segsL_mem]
      constructor
      · rintro ⟨⟨x1, x2⟩, hx⟩
        obtain ⟨f, a, rfl, d, hd⟩ := ex_nat hg x1 hx
        by_cases hf : f < lo
        · rw [h.below f a (by omega) hf] at hd; cases hd
        · by_cases hf2 : f < lo + pre.length
          · exact .inl ⟨f - lo, by omega, by omega⟩
          · exfalso
            apply ht
            obtain rfl : f = lo + pre.length := by omega
            exact hx
      · rintro (⟨j, hj, rfl⟩ | ⟨h, _⟩)
        · obtain ⟨d, hd⟩ := pre_there h hj
          exact ⟨⟨by omega, by omega⟩, ((0 : Nat) : Int), d, hd⟩
        · cases h
    · cases hc : cur with
      | nil => rfl
      | cons d r =>
        exfalso
        apply ht
        have h1 := h.at_
        rw [hc] at h1
        have hl : 0 < (Pl.segL (nn + Pl.cnt pre) (d :: r)).length := by rw [Pl.segL_len_cons]; have := Pl.partsN_pos d.size; omega
        exact ⟨((0 : Nat) : Int), _, h1 0 _ (List.getElem?_eq_getElem hl)⟩
theorem size_seg (hg : s.Good n) (h : Pl.Inv (mdT s) lo nn pre cur) {f : Nat} (hf : 2 ≤ f) {r : Int} (hz : IsSz (s.S (f : Int)) r) : r = (szN (mdT s) f : Nat) :=
  szN_is hz fun a d hd => by
    obtain ⟨⟨_, ha⟩, _⟩ := hg.dom _ a d hd
    obtain ⟨a', rfl⟩ := Int.eq_ofNat_of_zero_le ha.1
    have := h.short f a' d hd hf
    omega
/-- The tail lies within its segment's sectors. -/
theorem tail_le (h : Pl.Inv (mdT s) lo nn pre cur) : (Pl.segL (nn + Pl.cnt pre) cur).length ≤ szN (mdT s) (lo + pre.length) := by
  rcases Nat.eq_zero_or_pos (Pl.segL (nn + Pl.cnt pre) cur).length with h0 | h0
  · omega
  · have h1 := h.at_ ((Pl.segL (nn + Pl.cnt pre) cur).length - 1) _ (List.getElem?_eq_getElem (by omega))
    rw [Nat.zero_add] at h1
    have := szTo_up (mdT s) (lo + pre.length) 16 ((Pl.segL (nn + Pl.cnt pre) cur).length - 1) (by have := h.le; omega) (by rw [h1]; rfl)
    rw [szN_eq]
    omega
end

/-- So many sectors have the first i segments. -/
def upTo (T : Pl.Md) (lo i : Nat) : Nat := ((List.range i).map fun j => szN T (lo + j)).sum
theorem upTo_succ (T : Pl.Md) (lo i : Nat) : upTo T lo (i + 1) = upTo T lo i + szN T (lo + i) := by
  unfold upTo; rw [List.range_succ, List.map_append, List.sum_append]; simp
theorem upTo_le (T : Pl.Md) (lo : Nat) : ∀ i, upTo T lo i ≤ 16 * i := by
  intro i
  induction i with
  | zero => simp [upTo]
  | succ i ih => rw [upTo_succ]; have := szN_le T (lo + i); omega
theorem secN_upTo (T : Pl.Md) (lo k e : Nat) : secN T lo k e = upTo T lo k + e := rfl

set_option maxRecDepth 100000 in
set_option maxHeartbeats 1600000 in
theorem sectors_any (X : Nat → Prop) (b bl bm n : Nat) (s : St) (nx : Int) (lo nn : Nat) (pre : List (List ByteArray)) (cur : List ByteArray) (w : World) (h : M w X b n s) (hn : n ≤ 1000000) (hg : LG w bl b bm ((lo + pre.length : Nat) : Int) (((Pl.segL (nn + Pl.cnt pre) cur).length : Nat) : Int) nx)
    (hinv : Pl.Inv (mdT s) lo nn pre cur) (hL : lo + pre.length ≤ 100000) :
    Calls Try.prog 16 #[.pointer (some ⟨bl, 0, none⟩)] w fun e w' => e = .returned (.int .i64 ((secN (mdT s) lo pre.length (Pl.segL (nn + Pl.cnt pre) cur).length : Nat) : Int)) ∧ Below w.heap.size w w' := by
  have HM := Lib.hid h
  have HG := Lib.hid hg
  have HINV := Lib.hid hinv
  have HSG := Lib.hid (segments_any X b bl bm n s _ _ nx w h hn hg)
  obtain ⟨E, hE⟩ : ∃ E, E = (Pl.segL (nn + Pl.cnt pre) cur).length := ⟨_, rfl⟩
  rw [← hE] at HG ⊢
  obtain ⟨P, hP⟩ : ∃ P, P = pre.length := ⟨_, rfl⟩
  rw [← hP] at HG HSG hL ⊢
  obtain ⟨sgv, hsv⟩ : ∃ sgv : Int, sgv = ((lo + P : Nat) : Int) := ⟨_, rfl⟩
  rw [← hsv] at HG HSG
  have HSV := Lib.hid hsv
  have HEL : Hid (E ≤ szN (mdT s) (lo + P)) := Lib.hid (by rw [hE, hP]; exact tail_le hinv)
  have hE16 : E ≤ 16 := by rw [hE]; exact hinv.le
  have HE := Lib.hid hE
  have HPP := Lib.hid hP
  clear h hg hinv hE hP hsv
  go_enter Try.func16, Try.ntmps16
  go_wp2_with fail
  refine HSG.out.mono ?_
  rintro e w1 ⟨A, m, c, l, rfl, hm, _, hm1, hp, hmem, hrd, hb, _⟩
  have HTE : Hid (∃ te, l = segsL lo P te ∧ (te = false → cur = [])) := Lib.hid (by
    have := segs_inv HM.out.good HINV.out hp (by rw [← HPP.out, ← HSV.out]; exact hmem)
    rwa [← HPP.out] at this)
  obtain ⟨te, hl, hte⟩ := HTE.out
  have HL := Lib.hid hl
  have HT := Lib.hid hte
  have HRD := Lib.hid hrd
  have HB := Lib.hid hb
  have HML := Lib.hid hm
  have HMT : Hid (m = P + (if te then 1 else 0)) := Lib.hid (by rw [hm, hl, segsL_length])
  clear hp hmem hrd hb hm hl hte HTE HSG
  go_wp2_with fail
  go_loopw [3, 5, 6, 12] (fun v3 _ _ v12 wr => ∃ (i t : Nat), i ≤ m ∧  v3 = .int .i64 (t : Int) ∧ v12 = .int .i64 (i : Int) ∧ t ≤ 16 * i ∧
      Hid (t = (if i ≤ P then upTo (mdT s) lo i else upTo (mdT s) lo P + E) ∧ Below w1.heap.size w1 wr)) (fun _ _ _ v12 _ => m - (RowKit.intOf v12).toNat)
  case atStart => exact ⟨0, 0, by omega, rfl, rfl, by omega, Lib.hid ⟨by simp [upTo], Below.refl _ _⟩⟩
  case round =>
    obtain ⟨i, t, hi, rfl, rfl, ht, HH⟩ := hrel
    by_cases hlt : i < m
    · have hil : i < l.length := by rw [← HML.out]; exact hlt
      have hl2 : l[i]? = some ((lo + i : Nat) : Int) := by rw [HL.out]; exact segsL_get? lo P te i (by have := HMT.out; omega)
      have hlv : l[i] = ((lo + i : Nat) : Int) := (List.getElem?_eq_some_iff.1 hl2).2
      obtain ⟨ba, oa, rfl, hba, hcs⟩ := HRD.out.int_at hil
      have hc0 := (HH.out.2.cell (p := ⟨ba, oa + i, none⟩) hba).trans (hcs i hil)
      rw [hlv] at hc0
      have hbw := HB.out.trans (HH.out.2.mono HB.out.size)
      have hg2 : LG wr bl b bm sgv (E : Int) nx := (hbw.block _ HG.out.lt).trans HG.out
      have c0 := hg2.cl.c0
      have c1 := hg2.cl.c1
      have c2 := hg2.cl.c2
      have HSZ := Lib.hid (sizeX X b n s ((lo + i : Nat) : Int) wr (HM.out.below hbw) (by constructor <;> omega))
      have hMT := HMT.out
      have hsv := HSV.out
      have hiP : i ≤ P := by cases te <;> simp at hMT <;> omega
      by_cases hiP2 : i < P
      · have hne : (((lo + i : Nat) : Int) == sgv) = false := by rw [beq_eq_false_iff_ne]; omega
        have HN : Hid (t + szN (mdT s) (lo + i) = (if i + 1 ≤ P then upTo (mdT s) lo (i + 1) else upTo (mdT s) lo P + E)) := Lib.hid (by rw [if_pos (by omega), upTo_succ, HH.out.1, if_pos hiP])
        have hs16 := szN_le (mdT s) (lo + i)
        clear hcs hil hl2 hlv hbw hg2 hMT hsv
        have HSQ := Lib.hid (fun (r : Int) (hz : IsSz (s.S ((lo + i : Nat) : Int)) r) => size_seg HM.out.good HINV.out (show 2 ≤ lo + i by have := HINV.out.lo2; omega) hz)
        generalize ((lo + i : Nat) : Int) = v at hc0 HSZ hne HSQ
        go_wp2_with fail
        refine HSZ.out.mono ?_
        rintro e w2 ⟨r, rfl, hz, hb2⟩
        have hr := HSQ.out r hz
        subst hr
        have HB2 := Lib.hid (HH.out.2.trans (hb2.mono HH.out.2.size))
        have hg3 : LG w2 bl b bm sgv (E : Int) nx := (hb2.block _ (by have := HG.out.lt; have := HB.out.size; have := HH.out.2.size; omega)).trans ((HH.out.2.block _ (by have := HG.out.lt; have := HB.out.size; omega)).trans ((HB.out.block _ HG.out.lt).trans HG.out))
        have c1 := hg3.cl.c1
        have c2 := hg3.cl.c2
        clear hb2 hz HSZ HSQ hg3 c0 hc0
        go_wp2_with fail
        go_roundw
        case rel => exact ⟨i + 1, t + szN (mdT s) (lo + i), by omega, by go_num, by go_num, by omega, Lib.hid ⟨HN.out, HB2.out⟩⟩
        case measure => simp [RowKit.intOf]; omega
      · have hiP3 : i = P := by omega
        have hne : (((lo + i : Nat) : Int) == sgv) = true := by rw [beq_iff_eq]; omega
        have hte' : te = true := by cases te <;> simp at hMT <;> first | rfl | omega
        have HN : Hid (t + E = (if i + 1 ≤ P then upTo (mdT s) lo (i + 1) else upTo (mdT s) lo P + E)) := Lib.hid (by rw [if_neg (by omega), HH.out.1, if_pos hiP, hiP3])
        have HEL2 : Hid (E ≤ szN (mdT s) (lo + i)) := Lib.hid (by rw [hiP3]; exact HEL.out)
        have hs16 := szN_le (mdT s) (lo + i)
        have HiP := Lib.hid hiP3
        clear hcs hil hl2 hlv hbw hg2 hMT hsv hiP3 hte'
        have HSQ := Lib.hid (fun (r : Int) (hz : IsSz (s.S ((lo + i : Nat) : Int)) r) => size_seg HM.out.good HINV.out (show 2 ≤ lo + i by have := HINV.out.lo2; omega) hz)
        generalize ((lo + i : Nat) : Int) = v at hc0 HSZ hne HSQ
        go_wp2_with fail
        refine HSZ.out.mono ?_
        rintro e w2 ⟨r, rfl, hz, hb2⟩
        have hr := HSQ.out r hz
        subst hr
        have HB2 := Lib.hid (HH.out.2.trans (hb2.mono HH.out.2.size))
        have hg3 : LG w2 bl b bm sgv (E : Int) nx := (hb2.block _ (by have := HG.out.lt; have := HB.out.size; have := HH.out.2.size; omega)).trans ((HH.out.2.block _ (by have := HG.out.lt; have := HB.out.size; omega)).trans ((HB.out.block _ HG.out.lt).trans HG.out))
        have c1 := hg3.cl.c1
        have c2 := hg3.cl.c2
        have hmn : min ((szN (mdT s) (lo + i) : Nat) : Int) (E : Int) = (E : Int) := by have := HEL2.out; omega
        clear hb2 hz HSZ HSQ hg3 c0 hc0
        go_wp2_with fail
        go_roundw
        case rel => exact ⟨i + 1, t + E, by omega, by go_num, by go_num, by omega, Lib.hid ⟨HN.out, HB2.out⟩⟩
        case measure => simp [RowKit.intOf]; omega
    · have HTF : Hid (t = secN (mdT s) lo P E) := Lib.hid (by
        have h1 := HH.out.1
        have hMT := HMT.out
        rw [secN_upTo]
        cases te with
        | true => simp at hMT; rw [h1, if_neg (by omega)]
        | false =>
          have hc := HT.out rfl
          have hE0 : E = 0 := by rw [HE.out, hc]; rfl
          simp at hMT
          rw [h1, if_pos (by omega), show i = P by omega, hE0]; rfl)
      have HBF := Lib.hid (HB.out.trans (HH.out.2.mono HB.out.size))
      go_wp2_with fail
      go_ret
      exact ⟨by rw [← HTF.out]; rfl, HBF.out⟩
end Go.Proofs.Ytcmeaeemjecjiaa
