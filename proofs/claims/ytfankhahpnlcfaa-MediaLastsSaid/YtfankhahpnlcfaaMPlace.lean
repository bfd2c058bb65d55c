/-
  A MAP KEYED BY PLACES (a file, a sector), whose elements are texts: 'PM w b n g'.
-/
import Derived.Test.YtfankhahpnlcfaaMMap
import Derived.DeepKeys4
namespace Go.Proofs.Ytfankhahpnlcfaa
open Go.RowKit Go.Maps

abbrev placeT : TypeId := 45
theorem laidOutK : laidOutB Try.prog = true := by kernel_rfl
theorem placeWide : (match Try.prog.underlying placeT with | some (.array _ _) | some (.struct _) => true | _ => false) = true := by rw [Try.underlying45]
theorem placeRow : placeT < Try.prog.types.size := of_decide_eq_true (by kernel_rfl)
theorem placeLaw : Keyed Try.prog placeT := Keyed.of_law (deep_law_laid laidOutK (m := 2) (by omega) placeRow (by kernel_rfl) placeWide)
theorem placeIs : Try.prog.keyType placeT = true := by kernel_rfl
theorem placeCells : Try.prog.cellsOf placeT = 2 := by kernel_rfl
theorem intCells : Try.prog.cellsOf 3 = 1 := by kernel_rfl
theorem placeLits (d : Nat) (f a : Int) (hf : (Lit.int .i64 f).wf = true) (ha : (Lit.int .i64 a).wf = true) : Try.prog.keyLits (d + 1 + 1) placeT [.int .i64 f, .int .i64 a] = some [.int .i64 f, .int .i64 a] := by
  simp [Program.keyLits, Try.underlying45, Try.underlying3, hf, ha, placeCells, intCells]

def placeV (f a : Int) : Value := .agg #[.int .i64 f, .int .i64 a]
/-- What a place reads as. -/
def pk (f a : Int) : Lit := .string (keyBytes [.int .i64 f, .int .i64 a])
theorem placeKey {f a : Int} (hf : Wf f) (ha : Wf a) : keyOf Try.prog placeT (placeV f a) = some (pk f a) := by
  have h1 : (placeV f a).formed Try.prog placeT = true := by simp [placeV, Value.formed, Try.underlying45, placeCells]
  have hr := placeRow
  obtain ⟨d, hd⟩ : ∃ d, Try.prog.types.size = d + 1 := by
    cases h : Try.prog.types.size with
    | zero => rw [h] at hr; exact absurd hr (Nat.not_lt_zero _)
    | succ d => exact ⟨d, rfl⟩
  have h2 := placeLits d f a hf.lit ha.lit
  rw [← hd] at h2
  unfold keyOf
  rw [Try.underlying45]
  simp only [placeIs, h1, Bool.and_self, if_true]
  show (Try.prog.keyLits (Try.prog.types.size + 1) placeT [.int .i64 f, .int .i64 a]).map _ = _
  rw [h2]
  rfl
theorem pk_inj {f a f' a' : Int} (hf : Wf f) (ha : Wf a) (hf' : Wf f') (ha' : Wf a') (h : pk f a = pk f' a') : f = f' ∧ a = a' := by
  have h1 := placeKey hf ha
  rw [h] at h1
  have := placeLaw.inj h1 (placeKey hf' ha')
  simp [placeV] at this
  exact this

abbrev Pls := Int → Int → Option ByteArray
structure SaysP (D : DV) (g : Pls) : Prop where
  isMap : IsMap D
  has : ∀ f a, Wf f → Wf a → Maps.has D (pk f a) = (g f a).isSome
  at_ : ∀ f a d z, Wf f → Wf a → g f a = some d → D.atKey (pk f a) z = .held (.string d)
def upd2 (g : Pls) (f a : Int) (o : Option ByteArray) : Pls := fun f' a' => if f' = f ∧ a' = a then o else g f' a'
theorem SaysP.empty : SaysP (.map []) (fun _ _ => none) := ⟨⟨_, rfl⟩, fun _ _ _ _ => rfl, fun _ _ _ _ _ _ h => by cases h⟩
theorem pkLit (f a : Int) : WideAt.IsKeyLit (pk f a) := trivial
theorem pk_ne {f a f' a' : Int} (hf : Wf f) (ha : Wf a) (hf' : Wf f') (ha' : Wf a') (h : ¬ (f' = f ∧ a' = a)) : pk f' a' ≠ pk f a := fun e => h (pk_inj hf' ha' hf ha e)
theorem SaysP.put {D : DV} {g : Pls} (h : SaysP D g) {f a : Int} (hf : Wf f) (ha : Wf a) (d : ByteArray) : SaysP (D.put (pk f a) (.held (.string d))) (upd2 g f a (some d)) := by
  refine ⟨h.isMap.put _ _, fun f' a' hf' ha' => ?_, fun f' a' u z hf' ha' hu => ?_⟩
  · by_cases e : f' = f ∧ a' = a
    · obtain ⟨rfl, rfl⟩ := e
      rw [has_put_same h.isMap (pkLit f' a')]; simp [upd2]
    · rw [has_put_other (pk_ne hf ha hf' ha' e), h.has f' a' hf' ha']; simp [upd2, e]
  · by_cases e : f' = f ∧ a' = a
    · obtain ⟨rfl, rfl⟩ := e
      simp [upd2] at hu
      subst hu
      exact atKey_put_same h.isMap (pkLit f' a') _ _
    · simp only [upd2, if_neg e] at hu
      rw [atKey_put_other (pk_ne hf ha hf' ha' e)]
      exact h.at_ f' a' u z hf' ha' hu
theorem SaysP.del {D : DV} {g : Pls} (h : SaysP D g) {f a : Int} (hf : Wf f) (ha : Wf a) : SaysP (D.del (pk f a)) (upd2 g f a none) := by
  refine ⟨h.isMap.del _, fun f' a' hf' ha' => ?_, fun f' a' u z hf' ha' hu => ?_⟩
  · by_cases e : f' = f ∧ a' = a
    · obtain ⟨rfl, rfl⟩ := e
      rw [has_del_same]; simp [upd2]
    · rw [has_del_other (pk_ne hf ha hf' ha' e), h.has f' a' hf' ha']; simp [upd2, e]
  · by_cases e : f' = f ∧ a' = a
    · obtain ⟨rfl, rfl⟩ := e
      simp [upd2] at hu
    · simp only [upd2, if_neg e] at hu
      rw [atKey_del_other (pk_ne hf ha hf' ha' e)]
      exact h.at_ f' a' u z hf' ha' hu

/-- BLOCK b OF w IS A MAP OF AT MOST n ENTRIES; at each place stands what g says. -/
def PM (w : World) (b n : Nat) (g : Pls) : Prop := ∃ D, w.ownsMap Try.prog placeT rawR b n D ∧ SaysP D g
theorem PM.lt {w : World} {b n : Nat} {g : Pls} (h : PM w b n g) : b < w.heap.size := by obtain ⟨D, h, _⟩ := h; exact h.lt
theorem PM.kept {w w' : World} {b n : Nat} {g : Pls} (h : PM w b n g) (e : w'.heap[b]? = w.heap[b]?) : PM w' b n g := by
  obtain ⟨D, ⟨es, clock, hb, F, hs, hD⟩, hS⟩ := h
  exact ⟨D, ⟨es, clock, e.trans hb, F, hs, hD⟩, hS⟩
theorem PM.mono {w : World} {b n n' : Nat} {g : Pls} (h : PM w b n g) (hn : n ≤ n') : PM w b n' g := by
  obtain ⟨D, h, hS⟩ := h; exact ⟨D, h.mono hn, hS⟩
theorem PM.made (w : World) (n : Nat) : PM (w.alloc (.map #[] 0)) w.heap.size n (fun _ _ => none) := ⟨_, (World.ownsMap_made w Try.prog placeT rawR).mono (Nat.zero_le _), SaysP.empty⟩

section
variable {w : World} {b n : Nat} {g : Pls}
abbrev wantT : TypeId := 43
theorem PM.look (h : PM w b n g) {f a : Int} (hf : Wf f) (ha : Wf a) :
    (Instr.lookup wantT (.map (some b)) (placeV f a) true).run Try.prog w = .ok (.tuple #[.string ((g f a).getD ⟨#[]⟩), .bool (g f a).isSome]) w := by
  obtain ⟨D, ho, hS⟩ := h
  obtain ⟨v, ps, hrun, hv⟩ := ho.look_ok placeLaw Try.underlying43 (Try.zeroValue9 w) (zd := .held (.string ⟨#[]⟩)) (zp := []) rfl (placeKey hf ha)
  rw [hrun, hS.has f a hf ha]
  have hd := rawR_inv hv
  cases hg : g f a with
  | none =>
    rw [atKey_of_not_has (by rw [hS.has f a hf ha, hg]; rfl)] at hd
    injection hd with hd
    rw [← hd]; rfl
  | some u =>
    rw [hS.at_ f a u _ hf ha hg] at hd
    injection hd with hd
    rw [← hd]; rfl
theorem PM.store (h : PM w b n g) (hn : n < maxLen) {f a : Int} (hf : Wf f) (ha : Wf a) (d : ByteArray) :
    ∃ w', (Instr.mapUpdate wantT (.map (some b)) (placeV f a) (.string d)).run Try.prog w = .ok () w' ∧ PM w' b (n + 1) (upd2 g f a (some d)) ∧ w.mapTurned w' b := by
  obtain ⟨D, ho, hS⟩ := h
  obtain ⟨w', hrun, ho', ht'⟩ := ho.store placeLaw Try.underlying43 hn (placeKey hf ha) (d := .held (.string d)) (ps := []) (val := .string d) rfl
  exact ⟨w', hrun, ⟨_, ho', hS.put hf ha d⟩, ht'⟩
theorem PM.drop (h : PM w b n g) {f a : Int} (hf : Wf f) (ha : Wf a) (ty : TypeId) :
    ∃ w', (Builtin.delete_ #[wantT, placeT] ty #[.map (some b), placeV f a]).run Try.prog w = .ok (.tuple #[]) w' ∧ PM w' b n (upd2 g f a none) ∧ w.mapTurned w' b := by
  obtain ⟨D, ho, hS⟩ := h
  obtain ⟨w', hrun, ho', ht'⟩ := ho.drop placeLaw Try.underlying43 (placeKey hf ha) ty
  exact ⟨w', hrun, ⟨_, ho', hS.del hf ha⟩, ht'⟩
end
end Go.Proofs.Ytfankhahpnlcfaa
