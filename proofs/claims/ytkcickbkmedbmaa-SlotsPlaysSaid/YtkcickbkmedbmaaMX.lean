/-
  THE MEDIUM's CONTRACTS, its blocks behind one word: 'M w X b n s': block b of w is a Media in the state s, X its blocks, n bounds the raw writes done.
-/
import Derived.Test.YtkcickbkmedbmaaMWrite
import Derived.Test.YtkcickbkmedbmaaMSize
namespace Go.Proofs.Ytkcickbkmedbmaa
open Go.RowKit Go.Maps

def M (w : World) (X : Nat → Prop) (b n : Nat) (s : St) : Prop := ∃ bo F, Med w b bo F n s ∧ s.Good n ∧ ∀ k, X k ↔ own b bo F k

theorem M.lt {w : World} {X : Nat → Prop} {b n : Nat} {s : St} (h : M w X b n s) {k : Nat} (hk : X k) : k < w.heap.size := by
  obtain ⟨bo, F, hm, _, hX⟩ := h
  exact hm.lt k ((hX k).1 hk)
theorem M.keptB {w w' : World} {X : Nat → Prop} {b n : Nat} {s : St} (h : M w X b n s) (e : ∀ k, X k → w'.heap[k]? = w.heap[k]?) : M w' X b n s := by
  obtain ⟨bo, F, hm, hg, hX⟩ := h
  exact ⟨bo, F, hm.kept (fun k hk => e k ((hX k).2 hk)), hg, hX⟩
theorem M.kept {w w' : World} {X Y : Nat → Prop} {b n : Nat} {s : St} (h : M w X b n s) (ho : Only Y w w') (hd : ∀ k, X k → ¬ Y k) : M w' X b n s := h.keptB fun k hk => ho.block k (h.lt hk) (hd k hk)
theorem M.below {w w' : World} {X : Nat → Prop} {b n : Nat} {s : St} (h : M w X b n s) (hb : Below w.heap.size w w') : M w' X b n s := h.keptB fun k hk => hb.block k (h.lt hk)
theorem M.mono {w : World} {X : Nat → Prop} {b n n' : Nat} {s : St} (h : M w X b n s) (hn : n ≤ n') : M w X b n' s := by
  obtain ⟨bo, F, hm, hg, hX⟩ := h
  exact ⟨bo, F, hm.mono hn, ⟨hg.l0, hg.l1, hg.w0, by have := hg.w1; omega, hg.dom⟩, hX⟩

def St.new : St := { S := fun _ _ => none, off := false, armed := false, left := 0, writes := 0 }
def armF (s : St) (v : Int) : St := { S := s.S, off := s.off, armed := true, left := max v 0, writes := s.writes }
def onF (s : St) : St := { S := s.S, off := false, armed := false, left := 0, writes := s.writes }

theorem isF_iff {x : Int} (h : isF x = true) : 0 ≤ x ∧ x < 1048576 := by simpa [isF] using h
theorem isS_iff {x : Int} (h : isS x = true) : 0 ≤ x ∧ x < 65536 := by simpa [isS] using h

theorem St.Good.spend {s : St} {n : Nat} (hg : s.Good n) {valid : Bool} {c left' writes' : Int} {off' : Bool} (h : spendF s.off s.armed valid s.left s.writes = (c, off', left', writes')) :
    0 ≤ left' ∧ left' ≤ 9223372036854775807 ∧ 0 ≤ writes' ∧ writes' ≤ (n + 1 : Nat) := by
  have h1 := hg.l0; have h2 := hg.l1; have h3 := hg.w0; have h4 := hg.w1
  rcases spendF_cases h with ⟨_, _, _, _, rfl, rfl, hne⟩ | ⟨_, rfl, rfl⟩
  · cases ha : s.armed
    · simp; omega
    · have := hne ha; simp; omega
  · omega

theorem St.Good.write {s : St} {n : Nat} (hg : s.Good n) (x a : Int) (d : ByteArray) : (writeF s x a d).2.Good (n + 1) := by
  obtain ⟨c, off', left', writes', hsf⟩ : ∃ c off' left' writes', spendF s.off s.armed (validW x a d) s.left s.writes = (c, off', left', writes') := ⟨_, _, _, _, rfl⟩
  obtain ⟨h1, h2, h3, h4⟩ := hg.spend hsf
  unfold writeF
  rw [hsf]
  refine ⟨h1, h2, h3, h4, fun y c' u hu => ?_⟩
  by_cases hc : c = 0
  · subst hc
    have hv : validW x a d = true := by
      rcases spendF_cases hsf with ⟨_, hv, _⟩ | ⟨h | h, _⟩
      · exact hv
      · cases h
      · cases h
    simp [validW] at hv
    have hu : updS s.S x a d y c' = some u := hu
    by_cases h : y = x ∧ c' = a
    · obtain ⟨rfl, rfl⟩ := h
      rw [updS_hit] at hu
      injection hu with hu
      subst hu
      exact ⟨⟨isF_iff hv.1.1, isS_iff hv.1.2⟩, hv.2⟩
    · unfold updS at hu
      rw [if_neg h] at hu
      exact hg.dom y c' u hu
  · simp only [hc, if_false] at hu
    exact hg.dom y c' u hu

theorem St.Good.remove {s : St} {n : Nat} (hg : s.Good n) (x : Int) : (removeF s x).2.Good (n + 1) := by
  obtain ⟨c, off', left', writes', hsf⟩ : ∃ c off' left' writes', spendF s.off s.armed (isF x) s.left s.writes = (c, off', left', writes') := ⟨_, _, _, _, rfl⟩
  obtain ⟨h1, h2, h3, h4⟩ := hg.spend hsf
  unfold removeF
  rw [hsf]
  refine ⟨h1, h2, h3, h4, fun y c' u hu => ?_⟩
  by_cases hc : c = 0
  · simp only [hc, if_true] at hu
    split at hu
    · cases hu
    · exact hg.dom y c' u hu
  · simp only [hc, if_false] at hu
    exact hg.dom y c' u hu

/-- A step: it answers c; the medium's new blocks are new. -/
def StepX (X : Nat → Prop) (b n : Nat) (r : Int × St) (w : World) (e : Ending) (w' : World) : Prop :=
  ∃ X', e = .returned (.int .i64 r.1) ∧ M w' X' b n r.2 ∧ Only X w w' ∧ ∀ k, X' k → X k ∨ w.heap.size ≤ k

theorem writeX (X : Nat → Prop) (b n : Nat) (s : St) (x a : Int) (d : ByteArray) (w : World) (h : M w X b n s) (hn : n ≤ 1000000) (hx : Wf x) (ha : Wf a) :
    Calls Try.prog 19 #[.pointer (some ⟨b, 0, none⟩), .int .i64 x, .int .i64 a, .string d] w (StepX X b (n + 1) (writeF s x a d) w) := by
  obtain ⟨bo, F, hm, hg, hX⟩ := h
  refine (write_any b bo n F s x a d w hm hg hn hx ha).mono ?_
  rintro e w' ⟨F', he, hm', ho, hnew⟩
  exact ⟨own b bo F', he, ⟨bo, F', hm', hg.write x a d, fun _ => Iff.rfl⟩, ho.mono (fun k hk _ => (hX k).2 hk), fun k hk => (hnew k hk).imp (hX k).2 id⟩



theorem readX (X : Nat → Prop) (b n : Nat) (s : St) (x a : Int) (w : World) (h : M w X b n s) (hx : Wf x) (ha : Wf a) :
    Calls Try.prog 40 #[.pointer (some ⟨b, 0, none⟩), .int .i64 x, .int .i64 a] w (ReadPost (readF s x a) w) := by
  obtain ⟨bo, F, hm, hg, hX⟩ := h
  exact read_any b bo n F s x a w hm hg hx ha

/-- A call that answers nothing. -/
def MuteX (X : Nat → Prop) (b n : Nat) (s : St) (w : World) (e : Ending) (w' : World) : Prop := e = .returned (.tuple #[]) ∧ M w' X b n s ∧ Only X w w'

theorem armX (X : Nat → Prop) (b n : Nat) (s : St) (v : Int) (w : World) (h : M w X b n s) (hv : Wf v) :
    Calls Try.prog 12 #[.pointer (some ⟨b, 0, none⟩), .int .i64 v] w (MuteX X b n (armF s v) w) := by
  obtain ⟨bo, F, hm, hg, hX⟩ := h
  refine (arm_any b bo s.off s.armed s.left s.writes v w hm.ms).mono ?_
  rintro e w' ⟨he, hms, ho⟩
  exact ⟨he, ⟨bo, F, hm.struct hms ho, ⟨by show 0 ≤ max v 0; omega, by show max v 0 ≤ _; have := hv.2; omega, hg.w0, hg.w1, hg.dom⟩, hX⟩, ho.mono (fun k hk _ => (hX k).2 (.inl hk))⟩

theorem onX (X : Nat → Prop) (b n : Nat) (s : St) (w : World) (h : M w X b n s) :
    Calls Try.prog 14 #[.pointer (some ⟨b, 0, none⟩)] w (MuteX X b n (onF s) w) := by
  obtain ⟨bo, F, hm, hg, hX⟩ := h
  refine (on_any b bo s.off s.armed s.left s.writes w hm.ms).mono ?_
  rintro e w' ⟨he, hms, ho⟩
  exact ⟨he, ⟨bo, F, hm.struct hms ho, ⟨Int.le_refl _, by show (0 : Int) ≤ _; omega, hg.w0, hg.w1, hg.dom⟩, hX⟩, ho.mono (fun k hk _ => (hX k).2 (.inl hk))⟩



def SizeX (s : St) (x : Int) (w : World) (e : Ending) (w' : World) : Prop := ∃ r : Int, e = .returned (.int .i64 r) ∧ IsSz (s.S x) r ∧ Below w.heap.size w w'
theorem sizeX (X : Nat → Prop) (b n : Nat) (s : St) (x : Int) (w : World) (h : M w X b n s) (hx : Wf x) :
    Calls Try.prog 26 #[.pointer (some ⟨b, 0, none⟩), .int .i64 x] w (SizeX s x w) := by
  obtain ⟨bo, F, hm, hg, hX⟩ := h
  refine (size_any b bo n n s.off s.armed s.left s.writes x F (fun a => (s.S x a).map secV) w hm.ms hx hm.files (fun j hj => hm.secs x j hj) (fun hF a => by rw [hm.none_ x hF a]; rfl) (fun a ha => ?_)).mono ?_
  · cases hS : s.S x a with
    | none => rw [hS] at ha; cases ha
    | some d => exact (hg.dom x a d hS).1.2
  · rintro e w' ⟨r, he, hz, hb⟩
    refine ⟨r, he, ⟨hz.nn, fun a ha => hz.up a (by rw [Option.isSome_map]; exact ha), hz.top.imp id fun ⟨a, ha, e⟩ => ⟨a, by rw [Option.isSome_map] at ha; exact ha, e⟩⟩, hb⟩

def NewX (w : World) (e : Ending) (w' : World) : Prop := ∃ X, e = .returned (.pointer (some ⟨w.heap.size + 1, 0, none⟩)) ∧ M w' X (w.heap.size + 1) 0 St.new ∧ (∀ k, X k → w.heap.size ≤ k) ∧ Below w.heap.size w w'
theorem newX (w : World) : Calls Try.prog 7 #[] w (NewX w) := by
  refine (new_any w).mono ?_
  rintro e w' ⟨he, rfl⟩
  have hs : (w.alloc (.map #[] 0)).heap.size = w.heap.size + 1 := by simp
  refine ⟨_, he, ⟨w.heap.size, fun _ => none, ⟨?_, ?_, fun x y j h => (by cases h), fun x j h => (by cases h), fun x j h => (by cases h), fun _ _ _ => rfl, fun x j h => (by cases h)⟩, ⟨Int.le_refl _, by show (0 : Int) ≤ _; omega, Int.le_refl _, Int.le_refl _, fun x a d h => (by cases h)⟩, fun _ => Iff.rfl⟩, ?_, ((Below.refl _ _).alloc (Nat.le_refl _) _).alloc (by omega) _⟩
  · have := heap_alloc_new (w.alloc (.map #[] 0)) (.cells #[.map (some w.heap.size), .bool false, .bool false, .int .i64 0, .int .i64 0] 52)
    rw [hs] at this
    exact this
  · exact (IM.made w 0).kept (Below.heap_alloc _ _ _ (by omega))
  · rintro k (rfl | rfl | ⟨x, hx⟩)
    · omega
    · omega
    · cases hx
end Go.Proofs.Ytkcickbkmedbmaa
