/-
  CONTRACT of the law's example ('awake').
-/
import Derived.Test.YtfankhahpnlcfaaMX
namespace Go.Proofs.Ytfankhahpnlcfaa
open Go.RowKit Go.Maps

def f7 : ByteArray := fullB 7 false
theorem f7_size : f7.size = 64 := fullB_size 7 false
def e1 : St := armF St.new 1
def e2 : St := (writeF e1 2 0 f7).2
def e3 : St := (writeF e2 2 1 f7).2
def e4 : St := onF e3
theorem valid0 : validW 2 0 f7 = true := by simp [validW, f7_size]; decide
theorem valid1 : validW 2 1 f7 = true := by simp [validW, f7_size]; decide
theorem ex_w1 : writeF e1 2 0 f7 = (0, { S := updS (fun _ _ => none) 2 0 f7, off := false, armed := true, left := 0, writes := 1 }) := by
  simp [writeF, valid0, spendF, e1, armF, St.new, (by decide : max (1 : Int) 0 = 1)]
theorem ex_e2 : e2 = { S := updS (fun _ _ => none) 2 0 f7, off := false, armed := true, left := 0, writes := 1 } := by unfold e2; rw [ex_w1]
theorem ex_w2 : writeF e2 2 1 f7 = (40, { S := updS (fun _ _ => none) 2 0 f7, off := true, armed := true, left := 0, writes := 1 }) := by
  rw [ex_e2]; simp [writeF, valid1, spendF]
theorem ex_e3 : e3 = { S := updS (fun _ _ => none) 2 0 f7, off := true, armed := true, left := 0, writes := 1 } := by unfold e3; rw [ex_w2]
theorem ex_r3 : readF e3 2 0 = (⟨#[]⟩, 40) := by rw [ex_e3]; rfl
theorem ex_e4 : e4 = { S := updS (fun _ _ => none) 2 0 f7, off := false, armed := false, left := 0, writes := 1 } := by unfold e4; rw [ex_e3]; rfl
theorem ex_r4 : readF e4 2 0 = (f7, 0) := by rw [ex_e4]; rfl
theorem ex_r5 : readF e4 2 1 = (⟨#[]⟩, 41) := by rw [ex_e4]; rfl
theorem ex_S : ∀ x a, (∃ d, e4.S x a = some d) ↔ x = 2 ∧ a = 0 := fun x a => by
  rw [ex_e4]
  show (∃ d, updS (fun _ _ => none) 2 0 f7 x a = some d) ↔ _
  unfold updS
  by_cases h : x = 2 ∧ a = 0 <;> simp [h]
theorem ex_files {l : List Int} (hr : l.Pairwise (· < ·)) (h : ∀ x, x ∈ l ↔ ∃ a d, e4.S x a = some d) : l = [2] := by
  have hm : ∀ x, x ∈ l ↔ x = 2 := fun x => by
    rw [h x]
    constructor
    · rintro ⟨a, ha⟩; exact ((ex_S x a).1 ha).1
    · rintro rfl; exact ⟨0, (ex_S 2 0).2 ⟨rfl, rfl⟩⟩
  match l, hr, hm with
  | [], _, hm => exact absurd ((hm 2).2 rfl) (by simp)
  | [x], _, hm => rw [(hm x).1 (by simp)]
  | x :: y :: r, hr, hm =>
    have h1 := (hm x).1 (by simp)
    have h2 := (hm y).1 (by simp)
    have := (List.pairwise_cons.1 hr).1 y (by simp)
    omega
theorem ex_size {r : Int} (h : IsSz (e4.S 2) r) : r = 1 := by
  have h1 := h.up 0 (by obtain ⟨d, hd⟩ := (ex_S 2 0).2 ⟨rfl, rfl⟩; rw [hd]; rfl)
  rcases h.top with h0 | ⟨a, ha, h0⟩
  · omega
  · obtain ⟨d, hd⟩ := Option.isSome_iff_exists.1 ha
    have := ((ex_S 2 a).1 ⟨d, hd⟩).2
    omega
theorem wf_lit {x : Int} (h0 : -9223372036854775808 ≤ x) (h1 : x ≤ 9223372036854775807) : Wf x := ⟨h0, h1⟩

/-- What is kept of the medium from one call to the next. -/
def At (w0 w : World) (b n : Nat) (s : St) : Prop := ∃ X, M w X b n s ∧ (∀ k, X k → w0.heap.size ≤ k) ∧ Below w0.heap.size w0 w
theorem At.below {w0 w w' : World} {b n : Nat} {s : St} (h : At w0 w b n s) (hb : Below w.heap.size w w') : At w0 w' b n s := by
  obtain ⟨X, hm, hX, h0⟩ := h
  exact ⟨X, hm.below hb, hX, h0.trans (hb.mono h0.size)⟩
theorem At.step {w0 w w' : World} {b n' : Nat} {s' : St} {X' X : Nat → Prop} (hX : ∀ k, X k → w0.heap.size ≤ k) (h0 : Below w0.heap.size w0 w) (hm : M w' X' b n' s') (ho : Only X w w') (hn : ∀ k, X' k → X k ∨ w.heap.size ≤ k) : At w0 w' b n' s' :=
  ⟨X', hm, fun k hk => (hn k hk).elim (hX k) (fun h => Nat.le_trans h0.size h), h0.trans (ho.to_below h0.size (fun i hi _ => hX i hi))⟩
theorem At.fst {w0 w : World} {b n : Nat} {s : St} (h : At w0 w b n s) : Below w0.heap.size w0 w := by obtain ⟨X, _, _, h0⟩ := h; exact h0

section
variable {w0 w : World} {b n : Nat} {s : St}
theorem writeA (h : At w0 w b n s) (x a : Int) (d : ByteArray) (hn : n ≤ 1000000) (hx : Wf x) (ha : Wf a) {c : Int} {s' : St} (hr : writeF s x a d = (c, s')) :
    Calls Try.prog 9 #[.pointer (some ⟨b, 0, none⟩), .int .i64 x, .int .i64 a, .string d] w fun e w' => e = .returned (.int .i64 c) ∧ At w0 w' b (n + 1) s' := by
  obtain ⟨X, hm, hX, h0⟩ := h
  refine (writeX X b n s x a d w hm hn hx ha).mono ?_
  rintro e w' ⟨X', he, hm', ho, hnew⟩
  rw [hr] at he hm'
  exact ⟨he, At.step hX h0 hm' ho hnew⟩
theorem removeA (h : At w0 w b n s) (x : Int) (hn : n ≤ 1000000) (hx : Wf x) {c : Int} {s' : St} (hr : removeF s x = (c, s')) :
    Calls Try.prog 12 #[.pointer (some ⟨b, 0, none⟩), .int .i64 x] w fun e w' => e = .returned (.int .i64 c) ∧ At w0 w' b (n + 1) s' := by
  obtain ⟨X, hm, hX, h0⟩ := h
  refine (removeX X b n s x w hm hn hx).mono ?_
  rintro e w' ⟨X', he, hm', ho, hnew⟩
  rw [hr] at he hm'
  exact ⟨he, At.step hX h0 hm' ho hnew⟩
theorem readA (h : At w0 w b n s) (x a : Int) (hx : Wf x) (ha : Wf a) {d : ByteArray} {c : Int} (hr : readF s x a = (d, c)) :
    Calls Try.prog 14 #[.pointer (some ⟨b, 0, none⟩), .int .i64 x, .int .i64 a] w fun e w' => e = .returned (.tuple #[.string d, .int .i64 c]) ∧ At w0 w' b n s := by
  obtain ⟨X, hm, _⟩ := id h
  refine (readX X b n s x a w hm hx ha).mono ?_
  rintro e w' ⟨he, hb⟩
  rw [hr] at he
  exact ⟨he, h.below hb⟩
theorem armA (h : At w0 w b n s) (v : Int) (hv : Wf v) :
    Calls Try.prog 16 #[.pointer (some ⟨b, 0, none⟩), .int .i64 v] w fun e w' => e = .returned (.tuple #[]) ∧ At w0 w' b n (armF s v) := by
  obtain ⟨X, hm, hX, h0⟩ := h
  refine (armX X b n s v w hm hv).mono ?_
  rintro e w' ⟨he, hm', ho⟩
  exact ⟨he, At.step hX h0 hm' ho (fun k hk => .inl hk)⟩
theorem onA (h : At w0 w b n s) :
    Calls Try.prog 18 #[.pointer (some ⟨b, 0, none⟩)] w fun e w' => e = .returned (.tuple #[]) ∧ At w0 w' b n (onF s) := by
  obtain ⟨X, hm, hX, h0⟩ := h
  refine (onX X b n s w hm).mono ?_
  rintro e w' ⟨he, hm', ho⟩
  exact ⟨he, At.step hX h0 hm' ho (fun k hk => .inl hk)⟩
theorem writesA (h : At w0 w b n s) :
    Calls Try.prog 25 #[.pointer (some ⟨b, 0, none⟩)] w fun e w' => e = .returned (.int .i64 s.writes) ∧ w = w' := by
  obtain ⟨X, hm, _⟩ := h
  exact writesX X b n s w hm
theorem sizeA (h : At w0 w b n s) (x : Int) (hx : Wf x) :
    Calls Try.prog 23 #[.pointer (some ⟨b, 0, none⟩), .int .i64 x] w fun e w' => ∃ r : Int, e = .returned (.int .i64 r) ∧ IsSz (s.S x) r ∧ At w0 w' b n s := by
  obtain ⟨X, hm, _⟩ := id h
  refine (sizeX X b n s x w hm hx).mono ?_
  rintro e w' ⟨r, he, hz, hb⟩
  exact ⟨r, he, hz, h.below hb⟩
theorem newA : Calls Try.prog 7 #[] w fun e w' => e = .returned (.pointer (some ⟨w.heap.size + 1, 0, none⟩)) ∧ At w w' (w.heap.size + 1) 0 St.new := by
  refine (newX w).mono ?_
  rintro e w' ⟨X, he, hm, hX, hb⟩
  exact ⟨he, X, hm, hX, hb⟩
theorem fullA (h : At w0 w b n s) (v : Int) (odd : Bool) :
    Calls Try.prog 10 #[.int .i64 v, .bool odd] w fun e w' => e = .returned (.string (fullB v odd)) ∧ At w0 w' b n s := by
  refine (full_any v odd w).mono ?_
  rintro e w' ⟨he, hb⟩
  exact ⟨he, h.below hb⟩
end

set_option maxRecDepth 100000 in
set_option maxHeartbeats 3200000 in
theorem awake_any (w : World) : Calls Try.prog 27 #[] w fun e w' => e = .returned (.bool true) ∧ Below w.heap.size w w' := by
  have H7 := Lib.hid (show fullB 7 false = f7 from rfl)
  have q7 : (f7.toList == f7.toList) = true := beq_self_eq_true _
  go_enter Try.func27, Try.ntmps27
  go_wp2_with fail
  refine newA.mono ?_
  rintro e w1 ⟨rfl, h1⟩
  have A1 := Lib.hid h1
  clear h1
  go_wp2_with fail
  refine (armA A1.out 1 (wf_lit (by omega) (by omega))).mono ?_
  rintro e w2 ⟨rfl, h1⟩
  have A2 := Lib.hid h1
  clear h1
  go_wp2_with fail
  refine (fullA A2.out 7 false).mono ?_
  rw [H7.out]
  rintro e w3 ⟨rfl, h1⟩
  have A3 := Lib.hid h1
  clear h1
  go_wp2_with fail
  refine (writeA A3.out 2 0 f7 (by omega) (wf_lit (by omega) (by omega)) (wf_lit (by omega) (by omega)) ex_w1).mono ?_
  rw [← ex_e2]
  rintro e w4 ⟨rfl, h1⟩
  have A4 := Lib.hid h1
  clear h1
  go_wp2_with fail
  refine (fullA A4.out 7 false).mono ?_
  rw [H7.out]
  rintro e w5 ⟨rfl, h1⟩
  have A5 := Lib.hid h1
  clear h1
  go_wp2_with fail
  refine (writeA A5.out 2 1 f7 (by omega) (wf_lit (by omega) (by omega)) (wf_lit (by omega) (by omega)) ex_w2).mono ?_
  rw [← ex_e3]
  rintro e w6 ⟨rfl, h1⟩
  have A6 := Lib.hid h1
  clear h1
  go_wp2_with fail
  refine (readA A6.out 2 0 (wf_lit (by omega) (by omega)) (wf_lit (by omega) (by omega)) ex_r3).mono ?_
  rintro e w7 ⟨rfl, h1⟩
  have A7 := Lib.hid h1
  clear h1
  go_wp2_with fail
  refine (onA A7.out).mono ?_
  rw [show onF e3 = e4 from rfl]
  rintro e w8 ⟨rfl, h1⟩
  have A8 := Lib.hid h1
  clear h1
  go_wp2_with fail
  refine (readA A8.out 2 0 (wf_lit (by omega) (by omega)) (wf_lit (by omega) (by omega)) ex_r4).mono ?_
  rintro e w9 ⟨rfl, h1⟩
  have A9 := Lib.hid h1
  clear h1
  go_wp2_with fail
  refine (readA A9.out 2 1 (wf_lit (by omega) (by omega)) (wf_lit (by omega) (by omega)) ex_r5).mono ?_
  rintro e w10 ⟨rfl, h1⟩
  have A10 := Lib.hid h1
  clear h1
  go_wp2_with fail
  refine (fullA A10.out 7 false).mono ?_
  rw [H7.out]
  rintro e w11 ⟨rfl, h1⟩
  have A11 := Lib.hid h1
  clear h1
  go_wp2_with fail
  obtain ⟨X, hm, _⟩ := A11.out
  refine (filesX X _ _ e4 w11 hm (by omega)).mono ?_
  rintro e w12 ⟨A, m, c, l, rfl, hl, _, hr, hmem, hrd, hb⟩
  have hl2 := ex_files hr hmem
  subst hl2
  have hm1 : m = 1 := hl
  subst hm1
  have A12 := Lib.hid (A11.out.below hb)
  have HRD := Lib.hid hrd
  clear hm hl hr hmem hrd hb
  go_wp2_with fail
  have hrl : Rd (w12.alloc (.cells #[.int .i64 2] 3)) (w12.alloc (.cells #[.int .i64 2] 3)).heap.size (some ⟨w12.heap.size, 0, none⟩) (([2] : List Int).map (Value.int .i64)) := fun _ => by
    refine ⟨w12.heap.size, 0, rfl, by simp, fun j u hu => ?_⟩
    match j, hu with
    | 0, hu => simp at hu; subst hu; simp [go_sem]
    | j + 1, hu => simp at hu
  have hbl : Below w12.heap.size w12 (w12.alloc (.cells #[.int .i64 2] 3)) := (Below.refl _ _).alloc (Nat.le_refl _) _
  refine (ints_any A (some ⟨w12.heap.size, 0, none⟩) 1 c 1 1 [2] [2] _ rfl rfl (by omega) (by omega) ((HRD.out.below hbl).mono hbl.size) hrl).mono ?_
  rw [decide_eq_true (rfl : ([2] : List Int) = [2])]
  rintro e w13 ⟨rfl, q, rfl⟩
  have A13 := Lib.hid (show At w ((w12.alloc (.cells #[.int .i64 2] 3)).drewN q) _ _ e4 from (A12.out.below hbl).below ⟨rfl, rfl, rfl, Nat.le_refl _, fun _ _ => rfl⟩)
  clear hrl hbl HRD
  generalize (w12.alloc (.cells #[.int .i64 2] 3)).drewN q = w14 at A13 ⊢
  go_wp2_with fail
  refine (sizeA A13.out 2 (wf_lit (by omega) (by omega))).mono ?_
  rintro e w15 ⟨r, rfl, hz, h1⟩
  have hr1 := ex_size hz
  subst hr1
  have A15 := Lib.hid h1
  clear h1 hz
  go_wp2_with fail
  refine (writesA A15.out).mono ?_
  rw [show e4.writes = 1 from by rw [ex_e4]]
  rintro e w16 ⟨rfl, rfl⟩
  go_wp2_with fail
  go_ret
  exact ⟨rfl, A15.out.fst⟩
end Go.Proofs.Ytfankhahpnlcfaa
