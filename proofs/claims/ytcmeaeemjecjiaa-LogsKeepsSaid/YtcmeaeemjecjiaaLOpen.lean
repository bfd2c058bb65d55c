/-
  CONTRACTS of 'lowest' and Open.
-/
import Derived.Test.YtcmeaeemjecjiaaLFind
namespace Go.Proofs.Ytcmeaeemjecjiaa
open Go.RowKit Go.Maps

/-- The first one from 2 on. -/
def lowZ (l : List Int) : Int := (l.find? (fun x => decide (2 ≤ x))).getD 2
theorem lowZ_none {l : List Int} (h : ∀ x ∈ l, x < 2) : lowZ l = 2 := by
  unfold lowZ
  rw [List.find?_eq_none.2 (fun x hx => by have := h x hx; simp; omega)]
  rfl
theorem lowZ_at {l : List Int} {i : Nat} (hi : i < l.length) (h : ∀ x ∈ l.take i, x < 2) (h2 : 2 ≤ l[i]) : lowZ l = l[i] := by
  have e : l = l.take i ++ l[i] :: l.drop (i + 1) := by rw [← List.drop_eq_getElem_cons hi, List.take_append_drop]
  have : l.find? (fun x => decide (2 ≤ x)) = some l[i] := by
    rw [List.find?_eq_some_iff_append]
    exact ⟨by simpa using h2, l.take i, l.drop (i + 1), e, fun a ha => by have := h a ha; simp; omega⟩
  unfold lowZ
  rw [this]; rfl
theorem lowZ_wf {l : List Int} (h : ∀ x ∈ l, Wf x) : Wf (lowZ l) := by
  unfold lowZ
  cases hf : l.find? (fun x => decide (2 ≤ x)) with
  | none => constructor <;> decide
  | some x => exact h x (List.mem_of_find?_eq_some hf)

/-- The medium's lowest segment. -/
theorem lowZ_inv {s : St} {n : Nat} {lo nn : Nat} {pre : List (List ByteArray)} {cur : List ByteArray} {l : List Int} (hg : s.Good n) (h : Pl.Inv (mdT s) lo nn pre cur) (hp : l.Pairwise (· < ·)) (hm : ∀ x, x ∈ l ↔ ∃ a d, s.S x a = some d) : lowZ l = lo := by
  have h2 := h.lo2
  -- what there is
  have hex : ∀ x ∈ l, 2 ≤ x → ∃ f a : Nat, x = (f : Int) ∧ ∃ d, mdT s f a = some d := fun x hx hx2 => by
    obtain ⟨a, d, hd⟩ := (hm x).1 hx
    obtain ⟨⟨_, ha⟩, _⟩ := hg.dom x a d hd
    obtain ⟨f, rfl⟩ := Int.eq_ofNat_of_zero_le (show 0 ≤ x by omega)
    obtain ⟨a', rfl⟩ := Int.eq_ofNat_of_zero_le ha.1
    exact ⟨f, a', rfl, d, hd⟩
  have hlow : ∀ x ∈ l, 2 ≤ x → (lo : Int) ≤ x := fun x hx hx2 => by
    obtain ⟨f, a, rfl, d, hd⟩ := hex x hx hx2
    by_cases hf : f < lo
    · rw [h.below f a (by omega) hf] at hd; cases hd
    · omega
  by_cases hb : pre = [] ∧ cur = []
  · obtain ⟨e1, _, e3⟩ := h.none_ hb.1 hb.2
    subst e1
    unfold lowZ
    cases hf : l.find? (fun x => decide (2 ≤ x)) with
    | none => rfl
    | some x =>
      have hx := List.mem_of_find?_eq_some hf
      have hx2 : 2 ≤ x := by simpa using List.find?_some hf
      obtain ⟨f, a, rfl, d, hd⟩ := hex x hx hx2
      by_cases hf2 : 2 < f
      · rw [e3 f a hf2] at hd; cases hd
      · show (f : Int) = _; omega
  · have hlo : (lo : Int) ∈ l := by
      rw [hm]
      have hat : ∃ s0, mdT s lo 0 = some s0 := by
        cases pre with
        | cons c r =>
          obtain ⟨⟨h1, h9, _⟩, _⟩ := h.full
          exact ⟨_, h1 0 _ (List.getElem?_eq_getElem (by omega))⟩
        | nil =>
          cases cur with
          | nil => exact absurd ⟨rfl, rfl⟩ hb
          | cons d r =>
            have h1 := h.at_
            rw [show lo + ([] : List (List ByteArray)).length = lo from rfl] at h1
            have hl : 0 < (Pl.segL (nn + Pl.cnt []) (d :: r)).length := by rw [Pl.segL_len_cons]; have := Pl.partsN_pos d.size; omega
            exact ⟨_, h1 0 _ (List.getElem?_eq_getElem hl)⟩
      obtain ⟨s0, hs0⟩ := hat
      exact ⟨((0 : Nat) : Int), s0, hs0⟩
    unfold lowZ
    cases hf : l.find? (fun x => decide (2 ≤ x)) with
    | none =>
      have := List.find?_eq_none.1 hf _ hlo
      simp at this; omega
    | some x =>
      obtain ⟨hx2, l1, l2, e, hnot⟩ := List.find?_eq_some_iff_append.1 hf
      have hx2 : 2 ≤ x := by simpa using hx2
      have hxl := List.mem_of_find?_eq_some hf
      have := hlow x hxl hx2
      show x = _
      rw [e] at hlo hp
      rcases List.mem_append.1 hlo with h1 | h1
      · have := hnot _ h1; simp at this; omega
      · rcases List.mem_cons.1 h1 with h1 | h1
        · exact h1.symm
        · have := (List.pairwise_cons.1 (List.pairwise_append.1 hp).2.1).1 _ h1
          omega

theorem M.good {w : World} {X : Nat → Prop} {b n : Nat} {s : St} (h : M w X b n s) : s.Good n := by
  obtain ⟨bo, F, _, hg, _⟩ := h; exact hg

def LowPost (s : St) (w : World) (e : Ending) (w' : World) : Prop :=
  ∃ l : List Int, e = .returned (.int .i64 (lowZ l)) ∧ l.Pairwise (· < ·) ∧ (∀ x, x ∈ l ↔ ∃ a d, s.S x a = some d) ∧ Below w.heap.size w w'

set_option maxRecDepth 100000 in
set_option maxHeartbeats 1600000 in
theorem lowest_any (X : Nat → Prop) (b n : Nat) (s : St) (w : World) (h : M w X b n s) (hn : n ≤ 1000000) : Calls Try.prog 18 #[.pointer (some ⟨b, 0, none⟩)] w (LowPost s w) := by
  have HF := Lib.hid (filesX X b n s w h hn)
  clear h
  go_enter Try.func18, Try.ntmps18
  go_wp2_with fail
  refine HF.out.mono ?_
  rintro e w1 ⟨A, m, c, l, rfl, hm, hm1, hp, hmem, hrd, hb⟩
  have HP := Lib.hid (And.intro hp (And.intro hmem (And.intro hm hb)))
  have HRD := Lib.hid hrd
  clear hp hmem hrd hb hm HF
  go_wp2_with fail
  go_loopw [8] (fun v8 wr => ∃ i : Nat, i ≤ m ∧ v8 = .int .i64 (i : Int) ∧ Hid (wr = w1 ∧ ∀ x ∈ l.take i, x < 2)) (fun v8 _ => m - (RowKit.intOf v8).toNat)
  case atStart => exact ⟨0, by omega, rfl, Lib.hid ⟨rfl, by simp⟩⟩
  case round =>
    obtain ⟨i, hi, rfl, HH⟩ := hrel
    obtain ⟨hw, hN⟩ := HH.out
    subst hw
    have HN := Lib.hid hN
    clear hN HH
    by_cases hlt : i < m
    · have hil : i < l.length := by rw [← HP.out.2.2.1]; exact hlt
      obtain ⟨ba, oa, rfl, _, hcs⟩ := HRD.out.int_at hil
      have hc0 := hcs i hil
      have HE := Lib.hid (fun h2 : 2 ≤ l[i] => lowZ_at hil HN.out h2)
      have HS := Lib.hid (show l[i] < 2 → ∀ x ∈ l.take (i + 1), x < 2 from fun hx x hxm => by
        rw [List.take_succ_eq_append_getElem hil] at hxm
        rcases List.mem_append.1 hxm with h | h
        · exact HN.out x h
        · simp at h; subst h; exact hx)
      generalize l[i] = v at hc0 HE HS
      clear hcs hil
      by_cases h2 : 2 ≤ v
      · have g1 : decide ((2 : Int) ≤ v) = true := decide_eq_true h2
        go_wp2_with fail
        go_ret
        exact ⟨l, by rw [HE.out h2]; rfl, HP.out.1, HP.out.2.1, HP.out.2.2.2⟩
      · have g1 : decide ((2 : Int) ≤ v) = false := decide_eq_false h2
        go_wp2_with fail
        go_roundw
        case rel => exact ⟨i + 1, by omega, by go_num, Lib.hid ⟨by first | rfl | trivial, HS.out (by omega)⟩⟩
        case measure => simp [RowKit.intOf]; omega
    · have HE : Hid (lowZ l = 2) := Lib.hid (lowZ_none (fun x hx => HN.out x (by rw [List.take_of_length_le (by rw [← HP.out.2.2.1]; omega)]; exact hx)))
      go_wp2_with fail
      go_ret
      exact ⟨l, by rw [HE.out]; rfl, HP.out.1, HP.out.2.1, HP.out.2.2.2⟩

set_option maxRecDepth 100000 in
theorem open_nil (w : World) : Calls Try.prog 7 #[.pointer none] w fun e w' => e = .returned (.tuple #[.pointer none, .slice none 0 0, .int .i64 2]) ∧ w' = w := by
  go_enter Try.func7, Try.ntmps7
  go_wp2
  go_ret3
  exact ⟨rfl, rfl⟩

set_option maxRecDepth 100000 in
set_option maxHeartbeats 1600000 in
theorem open_off (X : Nat → Prop) (b n : Nat) (s : St) (w : World) (h : M w X b n s) (hn : n ≤ 1000000) (hoff : s.off = true) :
    Calls Try.prog 7 #[.pointer (some ⟨b, 0, none⟩)] w fun e w' => e = .returned (.tuple #[.pointer none, .slice none 0 0, .int .i64 40]) ∧ Below w.heap.size w w' := by
  have hmm := @run_makeMap Try.prog
  have HM := Lib.hid h
  have HL := Lib.hid (lowest_any X b n s w h hn)
  have HR : Hid (∀ x a, readF s x a = (⟨#[]⟩, 40)) := Lib.hid (fun x a => by simp [readF, hoff])
  clear h hoff
  go_enter Try.func7, Try.ntmps7
  go_wp2_with fail
  refine HL.out.mono ?_
  rintro e w1 ⟨l, rfl, hp, hmem, hb⟩
  have HWF := Lib.hid (lowZ_wf (l := l) (fun x hx => by
    obtain ⟨a, d, hd⟩ := (hmem x).1 hx
    have := (HM.out.good.dom x a d hd).1.1
    constructor <;> omega))
  have HB := Lib.hid hb
  clear hp hmem hb HL
  generalize lowZ l = z at HWF ⊢
  go_wp2_with fail
  have HB2 := Lib.hid (((Below.refl _ w1).alloc (Nat.le_refl _) (.map #[] 0)).alloc (by simp) (.cells #[.pointer (some ⟨b, 0, none⟩), .int .i64 z, .int .i64 0, .int .i64 1, .map (some w1.heap.size)] 53))
  refine (readX X b n s z 0 _ ((HM.out.below HB.out).below HB2.out) HWF.out (by constructor <;> decide)).mono ?_
  rintro e w2 ⟨he, hb2⟩
  rw [HR.out] at he
  subst he
  have HB3 := Lib.hid ((HB.out.trans (HB2.out.mono HB.out.size)).trans (hb2.mono (Nat.le_trans HB.out.size HB2.out.size)))
  clear hb2
  go_wp2_with fail
  go_ret3
  exact ⟨rfl, HB3.out⟩

/-- What Open leaves. -/
def OpenPost (X : Nat → Prop) (b n : Nat) (s : St) (lo nn : Nat) (pre : List (List ByteArray)) (cur : List ByteArray) (w : World) (e : Ending) (w' : World) : Prop :=
  ∃ X' bl A m c, e = .returned (.tuple #[.pointer (some ⟨bl, 0, none⟩), .slice A m c, .int .i64 0]) ∧ m = (flat pre cur).length ∧ m ≤ c ∧
      Rd w' w'.heap.size A (fc nn (flat pre cur)) ∧ LM LO w' X' b bl n s lo nn pre cur ∧ Below w.heap.size w w' ∧ (∀ k, X' k → X k ∨ w.heap.size ≤ k)

set_option maxRecDepth 100000 in
set_option maxHeartbeats 1600000 in
theorem open_any (X : Nat → Prop) (b n : Nat) (s : St) (lo nn : Nat) (pre : List (List ByteArray)) (cur : List ByteArray) (w : World) (h : M w X b n s) (hoff : s.off = false) (hinv : Pl.Inv (mdT s) lo nn pre cur) (hn : n ≤ 500000) (hN : nn + Pl.cnt pre + cur.length ≤ 100000) (hL : lo + pre.length ≤ 100000) :
    Calls Try.prog 7 #[.pointer (some ⟨b, 0, none⟩)] w (OpenPost X b n s lo nn pre cur w) := by
  have hmm := @run_makeMap Try.prog
  have HM := Lib.hid h
  have HINV := Lib.hid hinv
  have HOFF := Lib.hid hoff
  have HLW := Lib.hid (lowest_any X b n s w h (by omega))
  clear h hinv hoff
  go_enter Try.func7, Try.ntmps7
  go_wp2_with fail
  refine HLW.out.mono ?_
  rintro e w1 ⟨l, rfl, hp, hmem, hb⟩
  have hlo := lowZ_inv HM.out.good HINV.out hp hmem
  rw [hlo]
  have HB := Lib.hid hb
  clear hp hmem hb HLW hlo
  go_wp2_with fail
  have HB2 := Lib.hid (((Below.refl _ w1).alloc (Nat.le_refl _) (.map #[] 0)).alloc (by simp) (.cells #[.pointer (some ⟨b, 0, none⟩), .int .i64 (lo : Int), .int .i64 0, .int .i64 1, .map (some w1.heap.size)] 53))
  have HG2 : Hid (LG ((w1.alloc (.map #[] 0)).alloc (.cells #[.pointer (some ⟨b, 0, none⟩), .int .i64 (lo : Int), .int .i64 0, .int .i64 1, .map (some w1.heap.size)] 53)) (w1.heap.size + 1) b w1.heap.size (lo : Int) 0 1) := Lib.hid (by
    have := Fm.new_block (w1.alloc (.map #[] 0)) (.cells #[.pointer (some ⟨b, 0, none⟩), .int .i64 (lo : Int), .int .i64 0, .int .i64 1, .map (some w1.heap.size)] 53)
    rw [show (w1.alloc (.map #[] 0)).heap.size = w1.heap.size + 1 from by simp] at this
    exact this)
  have HI2 : Hid (IM ((w1.alloc (.map #[] 0)).alloc (.cells #[.pointer (some ⟨b, 0, none⟩), .int .i64 (lo : Int), .int .i64 0, .int .i64 1, .map (some w1.heap.size)] 53)) w1.heap.size 0 (fun _ => none)) := Lib.hid ((IM.made w1 0).kept (Below.heap_alloc _ _ _ (by simp)))
  have HM2 := Lib.hid ((HM.out.below HB.out).below HB2.out)
  generalize (w1.alloc (.map #[] 0)).alloc (.cells #[.pointer (some ⟨b, 0, none⟩), .int .i64 (lo : Int), .int .i64 0, .int .i64 1, .map (some w1.heap.size)] 53) = w2 at HB2 HG2 HI2 HM2 ⊢
  refine (readX X b n s (lo : Int) 0 _ HM2.out (by constructor <;> omega) (by constructor <;> decide)).mono ?_
  rintro e w3 ⟨he, hb3⟩
  have hr := read_at s lo 0 HOFF.out (by omega) (by omega)
  obtain ⟨d, c, hdc, hc⟩ : ∃ d c, readF s (lo : Int) 0 = (d, c) ∧ (c == 40) = false := by
    rw [show ((0 : Nat) : Int) = 0 from rfl] at hr
    rw [hr]
    cases mdT s lo 0 with
    | none => exact ⟨_, _, rfl, rfl⟩
    | some d => exact ⟨_, _, rfl, rfl⟩
  rw [hdc] at he
  subst he
  have HB3 := Lib.hid hb3
  have HFN := Lib.hid (find_any X b n s (w1.heap.size + 1) w1.heap.size lo nn pre cur w3 (HM2.out.below hb3) HOFF.out HINV.out hN hL ((hb3.block _ HG2.out.lt).trans HG2.out) (HI2.out.kept (hb3.block _ HI2.out.lt)) (fun j hj => by
    have := (HM.out.below HB.out).lt hj
    exact ⟨by omega, by omega⟩))
  clear hb3 hr hdc
  go_wp2_with fail
  refine HFN.out.mono ?_
  rintro e w4 ⟨A, m, cp, rfl, h1, h2, h3, h4, h5, h6⟩
  have HP : Hid (OpenPost X b n s lo nn pre cur w (.returned (.tuple #[.pointer (some ⟨w1.heap.size + 1, 0, none⟩), .slice A m cp, .int .i64 0])) w4) := Lib.hid (by
    have s1 := HB.out.size
    have s2 := HB2.out.size
    have s3 := HB3.out.size
    have hb04 : Below w.heap.size w w3 := (HB.out.trans (HB2.out.mono s1)).trans (HB3.out.mono (by omega))
    refine ⟨fun k => X k ∨ (k = w1.heap.size + 1 ∨ k = w1.heap.size), _, A, m, cp, rfl, h1, h2, h3, ⟨X, _, h4, h5, fun k hk hz => ?_, fun k => Iff.rfl, HINV.out⟩, hb04.trans (h6.to_below (by omega) (fun i hi _ => by omega)), fun k hk => hk.imp id (fun h => by omega)⟩
    have := (HM.out.below HB.out).lt hk
    omega)
  clear h1 h2 h3 h4 h5 h6 HFN
  go_wp2_with fail
  go_ret3
  exact HP.out
end Go.Proofs.Ytcmeaeemjecjiaa
