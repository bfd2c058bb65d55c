/-
  THE REFERENCE's MEDIUM: its list of sectors, its state in memory, its small methods.
-/
import Derived.Test.YtkcickbkmedbmaaMX
import Derived.Test.YtkcickbkmedbmaaMApp
import Derived.Lib.MinMax
namespace Go.Proofs.Ytkcickbkmedbmaa
open Go.RowKit Go.Maps

structure Sec where
  file : Int
  at_ : Int
  data : ByteArray
def Sec.vs (s : Sec) : List Value := [.int .i64 s.file, .int .i64 s.at_, .string s.data]
def sc (l : List Sec) : List Value := l.flatMap Sec.vs
theorem sc_cons (s : Sec) (l : List Sec) : sc (s :: l) = s.vs ++ sc l := rfl
theorem sc_append (a b : List Sec) : sc (a ++ b) = sc a ++ sc b := by simp [sc]
theorem sc_length (l : List Sec) : (sc l).length = l.length * 3 := by
  induction l with
  | nil => rfl
  | cons s l ih => rw [sc_cons, List.length_append, ih]; simp [Sec.vs]; omega
theorem sc_at (l : List Sec) (i j : Nat) (h : i < l.length) (hj : j < 3) : (sc l)[i * 3 + j]? = l[i].vs[j]? := by
  induction l generalizing i with
  | nil => simp at h
  | cons s l ih =>
    rw [sc_cons]
    cases i with
    | zero => rw [List.getElem?_append_left (by simp [Sec.vs]; omega)]; simp
    | succ i =>
      rw [List.getElem?_append_right (by simp [Sec.vs]; omega), show (i + 1) * 3 + j - s.vs.length = i * 3 + j from by simp [Sec.vs]; omega]
      exact ih i (by simpa using h)
theorem sc_one (l : List Sec) : ∀ u ∈ sc l, u.oneCell' = true := by
  intro u hu
  simp only [sc, Sec.vs, List.mem_flatMap, List.mem_cons, List.not_mem_nil, or_false] at hu
  obtain ⟨p, _, rfl | rfl | rfl⟩ := hu <;> rfl
theorem sc_set (l : List Sec) (k : Nat) (d : ByteArray) (h : k < l.length) : sc (l.set k ⟨l[k].file, l[k].at_, d⟩) = (sc l).set (k * 3 + 2) (.string d) := by
  induction l generalizing k with
  | nil => simp at h
  | cons s l ih =>
    cases k with
    | zero => rfl
    | succ k =>
      rw [List.set_cons_succ, sc_cons, sc_cons, List.set_append_right _ _ (by simp [Sec.vs]; omega), show (k + 1) * 3 + 2 - s.vs.length = k * 3 + 2 from by simp [Sec.vs]; omega]
      rw [← ih k (by simpa using h)]
      rfl

def hit (x a : Int) (s : Sec) : Bool := s.file == x && s.at_ == a
def findR : List Sec → Int → Int → Option ByteArray
  | [], _, _ => none
  | s :: r, x, a => if hit x a s then some s.data else findR r x a
theorem hit_iff {x a : Int} {s : Sec} : hit x a s = true ↔ s.file = x ∧ s.at_ = a := by simp [hit]
theorem findR_none {l : List Sec} {x a : Int} (h : ∀ s ∈ l, hit x a s = false) : findR l x a = none := by
  induction l with
  | nil => rfl
  | cons s r ih =>
    unfold findR
    rw [h s (by simp), if_neg (by decide)]
    exact ih fun s hs => h s (List.mem_cons_of_mem _ hs)
theorem findR_mem {l : List Sec} {x a : Int} {d : ByteArray} (h : findR l x a = some d) : ∃ s ∈ l, s.file = x ∧ s.at_ = a := by
  induction l with
  | nil => cases h
  | cons s r ih =>
    unfold findR at h
    by_cases hh : hit x a s = true
    · exact ⟨s, by simp, hit_iff.1 hh⟩
    · rw [if_neg hh] at h
      obtain ⟨s', hs, he⟩ := ih h
      exact ⟨s', List.mem_cons_of_mem _ hs, he⟩
theorem findR_some {l : List Sec} {s : Sec} (h : s ∈ l) : ∃ d, findR l s.file s.at_ = some d := by
  induction l with
  | nil => cases h
  | cons t r ih =>
    unfold findR
    by_cases hh : hit s.file s.at_ t = true
    · rw [if_pos hh]; exact ⟨_, rfl⟩
    · rw [if_neg hh]
      rcases List.mem_cons.1 h with rfl | h
      · exact absurd (hit_iff.2 ⟨rfl, rfl⟩) hh
      · exact ih h
theorem findR_at {l : List Sec} {x a : Int} {k : Nat} (hk : k < l.length) (hb : ∀ j (hj : j < l.length), j < k → hit x a l[j] = false) (hh : hit x a l[k] = true) : findR l x a = some l[k].data := by
  induction l generalizing k with
  | nil => simp at hk
  | cons s r ih =>
    unfold findR
    cases k with
    | zero => rw [if_pos (show hit x a s = true from hh)]; rfl
    | succ k =>
      have h0 := hb 0 (by simp) (by omega)
      rw [if_neg (by simp at h0; simp [h0])]
      exact ih (by simpa using hk) (fun j hj hjk => hb (j + 1) (by simpa using hj) (by omega)) hh
theorem findR_set {l : List Sec} {x a : Int} {k : Nat} {d : ByteArray} (hk : k < l.length) (hb : ∀ j (hj : j < l.length), j < k → hit x a l[j] = false) (hh : hit x a l[k] = true) (y c : Int) :
    findR (l.set k ⟨l[k].file, l[k].at_, d⟩) y c = updS (findR l) x a d y c := by
  induction l generalizing k with
  | nil => simp at hk
  | cons s r ih =>
    cases k with
    | zero =>
      have he := hit_iff.1 hh
      simp only [List.getElem_cons_zero] at he
      simp only [List.set_cons_zero, List.getElem_cons_zero, findR, updS, hit, he.1, he.2]
      by_cases hy : y = x ∧ c = a
      · obtain ⟨rfl, rfl⟩ := hy; simp
      · have : (x == y && a == c) = false := by
          cases h : (x == y && a == c)
          · rfl
          · simp at h; exact absurd ⟨h.1.symm, h.2.symm⟩ hy
        simp [this, hy]
    | succ k =>
      have h0 := hb 0 (by simp) (by omega)
      simp only [List.getElem_cons_zero] at h0
      have := ih (k := k) (by simpa using hk) (fun j hj hjk => hb (j + 1) (by simpa using hj) (by omega)) hh
      simp only [List.set_cons_succ, List.getElem_cons_succ, findR, this, updS]
      by_cases hy : y = x ∧ c = a
      · obtain ⟨rfl, rfl⟩ := hy; simp [h0]
      · simp [hy]
theorem findR_app {l : List Sec} {x a : Int} {d : ByteArray} (hb : ∀ s ∈ l, hit x a s = false) (y c : Int) : findR (l ++ [⟨x, a, d⟩]) y c = updS (findR l) x a d y c := by
  induction l with
  | nil =>
    simp only [List.nil_append, findR, updS, hit]
    by_cases hy : y = x ∧ c = a
    · obtain ⟨rfl, rfl⟩ := hy; simp
    · have : (x == y && a == c) = false := by
        cases h : (x == y && a == c)
        · rfl
        · simp at h; exact absurd ⟨h.1.symm, h.2.symm⟩ hy
      simp [this, hy]
  | cons s r ih =>
    have := ih fun s hs => hb s (List.mem_cons_of_mem _ hs)
    have h0 := hb s (by simp)
    simp only [List.cons_append, findR, this, updS]
    by_cases hy : y = x ∧ c = a
    · obtain ⟨rfl, rfl⟩ := hy; simp [h0]
    · simp [hy]
def keepR (x : Int) (s : Sec) : Bool := s.file != x
theorem findR_filter (l : List Sec) (x y c : Int) : findR (l.filter (keepR x)) y c = if y = x then none else findR l y c := by
  induction l with
  | nil => simp [findR]
  | cons s r ih =>
    rw [List.filter_cons]
    by_cases hk : keepR x s = true
    · rw [if_pos hk]
      simp only [findR, ih]
      by_cases hy : y = x
      · subst hy
        have : hit y c s = false := by simp [hit]; intro h; simp [keepR] at hk; exact absurd h hk
        simp [this]
      · simp [hy]
    · rw [if_neg hk, ih]
      simp [keepR] at hk
      by_cases hy : y = x
      · simp [hy]
      · have : hit y c s = false := by simp [hit]; intro h; omega
        simp [hy, findR, this]

/-! ### in memory -/
def RMS (w : World) (br : Nat) (A : Option Addr) (m c : Nat) (armed : Bool) (left : Int) (off : Bool) (writes : Int) : Prop :=
  w.heap[br]? = some (.cells #[.slice A m c, .bool armed, .int .i64 left, .bool off, .int .i64 writes] 55 (0, 0))
structure RCl (w : World) (br : Nat) (A : Option Addr) (m c : Nat) (armed : Bool) (left : Int) (off : Bool) (writes : Int) : Prop where
  c0 : w.cell? ⟨br, 0, none⟩ = some (.slice A m c)
  c1 : w.cell? ⟨br, 1, none⟩ = some (.bool armed)
  c2 : w.cell? ⟨br, 2, none⟩ = some (.int .i64 left)
  c3 : w.cell? ⟨br, 3, none⟩ = some (.bool off)
  c4 : w.cell? ⟨br, 4, none⟩ = some (.int .i64 writes)
  f0 : w.frozen? ⟨br, 0, none⟩ = false
  f1 : w.frozen? ⟨br, 1, none⟩ = false
  f2 : w.frozen? ⟨br, 2, none⟩ = false
  f3 : w.frozen? ⟨br, 3, none⟩ = false
  f4 : w.frozen? ⟨br, 4, none⟩ = false
section
variable {w w' : World} {br m c : Nat} {A : Option Addr} {armed off : Bool} {left writes : Int}
theorem RMS.cl (h : RMS w br A m c armed left off writes) : RCl w br A m c armed left off writes := by
  unfold RMS at h
  exact ⟨by rw [cell_of_block h]; rfl, by rw [cell_of_block h]; rfl, by rw [cell_of_block h]; rfl, by rw [cell_of_block h]; rfl, by rw [cell_of_block h]; rfl,
    frozen_of_block h, frozen_of_block h, frozen_of_block h, frozen_of_block h, frozen_of_block h⟩
theorem RMS.lt (h : RMS w br A m c armed left off writes) : br < w.heap.size := (Array.getElem?_eq_some_iff.1 h).1
theorem RMS.kept (h : RMS w br A m c armed left off writes) (e : w'.heap[br]? = w.heap[br]?) : RMS w' br A m c armed left off writes := e.trans h
end

/-- The reference's Media at block br is in the state s; Y its blocks; n bounds its raw writes, and its sectors. -/
structure Rf (w : World) (br : Nat) (l : List Sec) (A : Option Addr) (m c : Nat) (left : Int) (n : Nat) (s : St) : Prop where
  ms : RMS w br A m c s.armed left s.off s.writes
  row : w.ownsRow 0 72 3 (.slice A m c) m (sc l)
  len : m = l.length
  max : m ≤ n
  left : s.armed = true → left = s.left
  says : ∀ x a, findR l x a = s.S x a
  good : s.Good n
def ownR (br : Nat) (A : Option Addr) (k : Nat) : Prop := k = br ∨ ∃ o sp, A = some ⟨k, o, sp⟩
def RM (w : World) (Y : Nat → Prop) (br n : Nat) (s : St) : Prop := ∃ l A m c left, Rf w br l A m c left n s ∧ ∀ k, Y k ↔ ownR br A k

theorem row_lt {w : World} {e : TypeId} {size n : Nat} {A : Option Addr} {m c : Nat} {xs : List Value} (h : w.ownsRow 0 e size (.slice A m c) n xs) {k o : Nat} {sp : Option Nat} (hA : A = some ⟨k, o, sp⟩) : k < w.heap.size := by
  rcases h.2 with ⟨hv, _⟩ | ⟨g, cap, cur, hv, _, hh, _⟩
  · subst hA; cases hv
  · subst hA
    injection hv with hv
    injection hv with hv
    injection hv with hv
    subst hv
    exact lt_of_block hh
theorem row_kept {w w' : World} {e : TypeId} {size n base : Nat} {A : Option Addr} {m c : Nat} {xs : List Value} (h : w.ownsRow base e size (.slice A m c) n xs) (hk : ∀ k o sp, A = some ⟨k, o, sp⟩ → w'.heap[k]? = w.heap[k]?) : w'.ownsRow base e size (.slice A m c) n xs := by
  refine ⟨h.1, h.2.imp id fun ⟨g, cap, cur, hv, hb, hh, hr⟩ => ⟨g, cap, cur, hv, hb, ?_, hr⟩⟩
  have hA : A = some ⟨g, 0, none⟩ := by injection hv
  exact (hk g 0 none hA).trans hh
theorem row_ne {w : World} {e : TypeId} {size n : Nat} {A : Option Addr} {m c : Nat} {xs : List Value} (h : w.ownsRow 0 e size (.slice A m c) n xs) {b : Nat} {cs : Array Value} {t : TypeId} {fr : Nat × Nat} (hb : w.heap[b]? = some (.cells cs t fr)) (ht : t ≠ e) {k o : Nat} {sp : Option Nat} (hA : A = some ⟨k, o, sp⟩) : k ≠ b := by
  rcases h.2 with ⟨hv, _⟩ | ⟨g, cap, cur, hv, _, hh, _⟩
  · subst hA; cases hv
  · subst hA
    injection hv with hv
    injection hv with hv
    injection hv with hv
    subst hv
    rintro rfl
    rw [hh] at hb
    injection hb with hb
    injection hb with _ hb
    exact ht hb.symm

section
variable {w w' : World} {Y : Nat → Prop} {br n : Nat} {s : St}
theorem RM.lt (h : RM w Y br n s) {k : Nat} (hk : Y k) : k < w.heap.size := by
  obtain ⟨l, A, m, c, left, hr, hY⟩ := h
  rcases (hY k).1 hk with rfl | ⟨o, sp, hA⟩
  · exact hr.ms.lt
  · exact row_lt hr.row hA
theorem RM.keptB (h : RM w Y br n s) (e : ∀ k, Y k → w'.heap[k]? = w.heap[k]?) : RM w' Y br n s := by
  obtain ⟨l, A, m, c, left, hr, hY⟩ := h
  exact ⟨l, A, m, c, left, ⟨hr.ms.kept (e br ((hY br).2 (.inl rfl))), row_kept hr.row (fun k o sp hA => e k ((hY k).2 (.inr ⟨o, sp, hA⟩))), hr.len, hr.max, hr.left, hr.says, hr.good⟩, hY⟩
theorem RM.kept {X : Nat → Prop} (h : RM w Y br n s) (ho : Only X w w') (hd : ∀ k, Y k → ¬ X k) : RM w' Y br n s := h.keptB fun k hk => ho.block k (h.lt hk) (hd k hk)
theorem RM.below (h : RM w Y br n s) (hb : Below w.heap.size w w') : RM w' Y br n s := h.keptB fun k hk => hb.block k (h.lt hk)
theorem RM.mono (h : RM w Y br n s) {n' : Nat} (hn : n ≤ n') : RM w Y br n' s := by
  obtain ⟨l, A, m, c, left, hr, hY⟩ := h
  exact ⟨l, A, m, c, left, ⟨hr.ms, hr.row, hr.len, Nat.le_trans hr.max hn, hr.left, hr.says, ⟨hr.good.l0, hr.good.l1, hr.good.w0, by have := hr.good.w1; omega, hr.good.dom⟩⟩, hY⟩
end

def RNewX (w : World) (e : Ending) (w' : World) : Prop := ∃ Y, e = .returned (.pointer (some ⟨w.heap.size, 0, none⟩)) ∧ RM w' Y w.heap.size 0 St.new ∧ (∀ k, Y k → w.heap.size ≤ k) ∧ Below w.heap.size w w'
theorem rnewX (w : World) : Calls Try.prog 8 #[] w (RNewX w) := by
  go_enter Try.func8, Try.ntmps8
  go_wp2
  go_ret
  refine ⟨_, rfl, ⟨[], none, 0, 0, 0, ⟨heap_alloc_new w _, World.ownsRow_nil _ _ _ _, rfl, Nat.le_refl _, fun _ => rfl, fun _ _ => rfl, ⟨Int.le_refl _, by show (0 : Int) ≤ _; omega, Int.le_refl _, Int.le_refl _, fun x a d h => (by cases h)⟩⟩, fun _ => Iff.rfl⟩, ?_, (Below.refl _ _).alloc (Nat.le_refl _) _⟩
  rintro k (rfl | ⟨o, sp, hA⟩)
  · exact Nat.le_refl _
  · cases hA

theorem right_any (x a : Int) (w : World) : Calls Try.prog 36 #[.int .i64 x, .int .i64 a] w fun e w' => e = .returned (.bool (isF x && isS a)) ∧ w = w' := by
  by_cases h0 : 0 ≤ x
  · by_cases h1 : x < 1048576
    · have e1 : isF x = true := by simp [isF, h0, h1]
      by_cases h2 : 0 ≤ a
      · by_cases h3 : a < 65536
        · have H := Lib.hid (show (isF x && isS a) = true from by simp [e1, isS, h2, h3])
          clear e1
          go_enter Try.func36, Try.ntmps36
          go_wp2
          go_ret
          exact ⟨by rw [H.out]; rfl, rfl⟩
        · have H := Lib.hid (show (isF x && isS a) = false from by simp [isS, h3])
          clear e1
          go_enter Try.func36, Try.ntmps36
          go_wp2
          go_ret
          exact ⟨by rw [H.out]; rfl, rfl⟩
      · have H := Lib.hid (show (isF x && isS a) = false from by simp [isS, h2])
        clear e1
        go_enter Try.func36, Try.ntmps36
        go_wp2
        go_ret
        exact ⟨by rw [H.out]; rfl, rfl⟩
    · have H := Lib.hid (show (isF x && isS a) = false from by simp [isF, h1])
      go_enter Try.func36, Try.ntmps36
      go_wp2
      go_ret
      exact ⟨by rw [H.out]; rfl, rfl⟩
  · have H := Lib.hid (show (isF x && isS a) = false from by simp [isF, h0])
    go_enter Try.func36, Try.ntmps36
    go_wp2
    go_ret
    exact ⟨by rw [H.out]; rfl, rfl⟩

def ActPost (br : Nat) (A : Option Addr) (m c : Nat) (armed : Bool) (left writes : Int) (w : World) (e : Ending) (w' : World) : Prop :=
  (((armed && left == 0) = true ∧ e = .returned (.bool false) ∧ RMS w' br A m c armed left true writes) ∨
   ((armed && left == 0) = false ∧ ∃ left', e = .returned (.bool true) ∧ (armed = true → left' = left - 1) ∧ RMS w' br A m c armed left' false (writes + 1))) ∧ Only (fun i => i = br) w w'
theorem act_any (br : Nat) (A : Option Addr) (m c : Nat) (armed : Bool) (left writes : Int) (w : World) (h : RMS w br A m c armed left false writes) (hl : armed = true → 0 ≤ left ∧ left ≤ 9223372036854775807) (hw0 : 0 ≤ writes) (hw1 : writes ≤ 9223372036854775806) :
    Calls Try.prog 37 #[.pointer (some ⟨br, 0, none⟩)] w (ActPost br A m c armed left writes w) := by
  have HM := Lib.hid h
  obtain ⟨c0, c1, c2, c3, c4, f0, f1, f2, f3, f4⟩ := h.cl
  clear h
  cases armed
  · clear hl
    go_enter Try.func37, Try.ntmps37
    go_wp2
    go_ret
    exact ⟨.inr ⟨rfl, _, rfl, (fun h => by cases h), by unfold RMS; rw [block_setCell (block_setCell HM.out _)]; rfl⟩, (Only.set _ _ _ _).tr (Only.set _ _ _ _)⟩
  · obtain ⟨hl0, hl1⟩ := hl rfl
    clear hl
    by_cases hz : left = 0
    · subst hz
      go_enter Try.func37, Try.ntmps37
      go_wp2
      go_ret
      exact ⟨.inl ⟨rfl, rfl, by unfold RMS; rw [block_setCell HM.out]; rfl⟩, Only.set _ _ _ _⟩
    · have hl2 : 1 ≤ left := by omega
      have H := Lib.hid (show (true && left == 0) = false from by simp [hz])
      clear hz
      go_enter Try.func37, Try.ntmps37
      go_wp2
      go_ret
      exact ⟨.inr ⟨H.out, _, rfl, (fun _ => rfl), by unfold RMS; rw [block_setCell (block_setCell HM.out _)]; rfl⟩, (Only.set _ _ _ _).tr (Only.set _ _ _ _)⟩

def RMuteX (Y : Nat → Prop) (br n : Nat) (s : St) (w : World) (e : Ending) (w' : World) : Prop := e = .returned (.tuple #[]) ∧ RM w' Y br n s ∧ Only Y w w'
theorem rarmX (Y : Nat → Prop) (br n : Nat) (s : St) (v : Int) (w : World) (h : RM w Y br n s) (hv : Wf v) :
    Calls Try.prog 13 #[.pointer (some ⟨br, 0, none⟩), .int .i64 v] w (RMuteX Y br n (armF s v) w) := by
  obtain ⟨l, A, m, c, left, hr, hY⟩ := h
  have HR := Lib.hid hr
  obtain ⟨c0, c1, c2, c3, c4, f0, f1, f2, f3, f4⟩ := hr.ms.cl
  have hne : ∀ k o sp, A = some ⟨k, o, sp⟩ → k ≠ br := fun k o sp hA => row_ne hr.row hr.ms (by decide) hA
  have HNE := Lib.hid hne
  have HVV := Lib.hid hv
  clear hr hne hv
  have fin : ∀ z, z = max v 0 → RMuteX Y br n (armF s v) w (.returned (.tuple #[])) ((w.setCell ⟨br, 1, none⟩ (.bool true)).setCell ⟨br, 2, none⟩ (.int .i64 z)) := by
    rintro z rfl
    have ho : Only (fun i => i = br) w ((w.setCell ⟨br, 1, none⟩ (.bool true)).setCell ⟨br, 2, none⟩ (.int .i64 (max v 0))) := (Only.set _ _ _ _).tr (Only.set _ _ _ _)
    have hh := HR.out
    refine ⟨rfl, ⟨l, A, m, c, max v 0, ⟨?_, row_kept hh.row (fun k o sp hA => ho.block k (row_lt hh.row hA) (HNE.out k o sp hA)), hh.len, hh.max, fun _ => rfl, hh.says, ⟨by show 0 ≤ max v 0; omega, by show max v 0 ≤ _; have := HVV.out.2; omega, hh.good.w0, hh.good.w1, hh.good.dom⟩⟩, hY⟩, ho.mono (fun k hk _ => (hY k).2 (.inl hk))⟩
    unfold RMS
    rw [block_setCell (block_setCell hh.ms _)]
    rfl
  have HF := Lib.hid fin
  clear fin
  go_enter Try.func13, Try.ntmps13
  go_wp2
  go_end0
  exact HF.out _ rfl

theorem ronX (Y : Nat → Prop) (br n : Nat) (s : St) (w : World) (h : RM w Y br n s) :
    Calls Try.prog 15 #[.pointer (some ⟨br, 0, none⟩)] w (RMuteX Y br n (onF s) w) := by
  obtain ⟨l, A, m, c, left, hr, hY⟩ := h
  have HR := Lib.hid hr
  obtain ⟨c0, c1, c2, c3, c4, f0, f1, f2, f3, f4⟩ := hr.ms.cl
  have hne : ∀ k o sp, A = some ⟨k, o, sp⟩ → k ≠ br := fun k o sp hA => row_ne hr.row hr.ms (by decide) hA
  have HNE := Lib.hid hne
  clear hr hne
  go_enter Try.func15, Try.ntmps15
  go_wp2
  go_end0
  have hh := HR.out
  have ho : Only (fun i => i = br) w ((w.setCell ⟨br, 3, none⟩ (.bool false)).setCell ⟨br, 1, none⟩ (.bool false)) := (Only.set _ _ _ _).tr (Only.set _ _ _ _)
  refine ⟨rfl, ⟨l, A, m, c, left, ⟨?_, row_kept hh.row (fun k o sp hA => ho.block k (row_lt hh.row hA) (HNE.out k o sp hA)), hh.len, hh.max, fun h => (by cases h), hh.says, ⟨Int.le_refl _, by show (0 : Int) ≤ _; omega, hh.good.w0, hh.good.w1, hh.good.dom⟩⟩, hY⟩, ho.mono (fun k hk _ => (hY k).2 (.inl hk))⟩
  unfold RMS
  rw [block_setCell (block_setCell hh.ms _)]
  rfl

theorem rwritesX (Y : Nat → Prop) (br n : Nat) (s : St) (w : World) (h : RM w Y br n s) :
    Calls Try.prog 22 #[.pointer (some ⟨br, 0, none⟩)] w fun e w' => e = .returned (.int .i64 s.writes) ∧ w = w' := by
  obtain ⟨l, A, m, c, left, hr, hY⟩ := h
  obtain ⟨c0, c1, c2, c3, c4, f0, f1, f2, f3, f4⟩ := hr.ms.cl
  clear hr hY
  go_enter Try.func22, Try.ntmps22
  go_wp2
  go_ret
  exact ⟨rfl, rfl⟩
end Go.Proofs.Ytkcickbkmedbmaa
