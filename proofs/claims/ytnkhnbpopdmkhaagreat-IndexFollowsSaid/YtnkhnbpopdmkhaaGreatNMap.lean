/-
  MAPS of whatever values, keyed by strings, by quants' keys, by stands: 'GM K w b n f': block b is a map of at most n entries; f says what stands at each key as it reads.
-/
import Derived.Test.YtnkhnbpopdmkhaaGreatNPl
import Derived.Maps.OwnSet
import Derived.Maps.OwnOps
import Derived.Maps.RangeWalk
import Derived.Maps.Ext
import Derived.DeepKeys4
import Derived.WideKeyEntry
import Derived.Sort.KeysCollected
namespace Go.Proofs.YtnkhnbpopdmkhaaGreat
set_option linter.unusedVariables false
set_option maxRecDepth 100000
open Go.RowKit Go.Maps

/-- The datum D says what f says. -/
structure SaysL (D : DV) (f : Lit → Option Value) : Prop where
  isMap : IsMap D
  has : ∀ l, WideAt.IsKeyLit l → Maps.has D l = (f l).isSome
  at_ : ∀ l v z, WideAt.IsKeyLit l → f l = some v → D.atKey l z = .held v
def updL (f : Lit → Option Value) (x : Lit) (o : Option Value) : Lit → Option Value := fun y => if y.sameKey x = true then o else f y
theorem updL_same (f : Lit → Option Value) {x : Lit} (hx : WideAt.IsKeyLit x) (o : Option Value) : updL f x o x = o := by unfold updL; rw [if_pos (WideAt.sameKey_self hx)]
theorem updL_other {f : Lit → Option Value} {x y : Lit} (hx : WideAt.IsKeyLit x) {o : Option Value} (h : y ≠ x) : updL f x o y = f y := by unfold updL; rw [if_neg (fun e => h ((WideAt.sameKey_iff hx).1 e))]
theorem SaysL.empty : SaysL (.map []) (fun _ => none) := ⟨⟨_, rfl⟩, fun _ _ => rfl, fun _ _ _ _ h => by cases h⟩
theorem SaysL.put {D : DV} {f : Lit → Option Value} (h : SaysL D f) {x : Lit} (hx : WideAt.IsKeyLit x) (v : Value) : SaysL (D.put x (.held v)) (updL f x (some v)) := by
  refine ⟨h.isMap.put _ _, fun y hy => ?_, fun y u z hy hu => ?_⟩
  · by_cases e : y = x
    · subst e; rw [has_put_same h.isMap hx, updL_same _ hx]; rfl
    · rw [has_put_other e, updL_other hx e, h.has _ hy]
  · by_cases e : y = x
    · subst e; rw [updL_same _ hx] at hu; injection hu with hu; subst hu; exact atKey_put_same h.isMap hx _ _
    · rw [updL_other hx e] at hu; rw [atKey_put_other e]; exact h.at_ _ _ _ hy hu
theorem SaysL.del {D : DV} {f : Lit → Option Value} (h : SaysL D f) {x : Lit} (hx : WideAt.IsKeyLit x) : SaysL (D.del x) (updL f x none) := by
  refine ⟨h.isMap.del _, fun y hy => ?_, fun y u z hy hu => ?_⟩
  · by_cases e : y = x
    · subst e; rw [has_del_same, updL_same _ hx]; rfl
    · rw [has_del_other e, updL_other hx e, h.has _ hy]
  · by_cases e : y = x
    · subst e; rw [updL_same _ hx] at hu; cases hu
    · rw [updL_other hx e] at hu; rw [atKey_del_other e]; exact h.at_ _ _ _ hy hu
theorem nodup_le : ∀ (A B : List Lit), A.Nodup → (∀ l ∈ A, l ∈ B) → A.length ≤ B.length := by
  have hde : DecidableEq Lit := fun a b => Classical.propDecidable _
  intro A
  induction A with
  | nil => intro B _ _; exact Nat.zero_le _
  | cons a A ih =>
    intro B hA hB
    obtain ⟨h1, h2⟩ := List.nodup_cons.1 hA
    have hm := hB a List.mem_cons_self
    have h3 := ih (B.erase a) h2 (fun l hl => by
      have : l ≠ a := fun e => h1 (e ▸ hl)
      exact (List.mem_erase_of_ne this).2 (hB l (List.mem_cons_of_mem _ hl)))
    rw [List.length_erase_of_mem hm] at h3
    have : 0 < B.length := List.length_pos_of_mem hm
    simp only [List.length_cons]
    omega
/-- BLOCK b OF w IS A MAP OF AT MOST n ENTRIES, AT EACH KEY OF WHICH f SAYS WHAT STANDS THERE. -/
def GM (K : TypeId) (w : World) (b n : Nat) (f : Lit → Option Value) : Prop := ∃ D, w.ownsMap Tryz.prog K rawR b n D ∧ SaysL D f
section
variable {K : TypeId} {w : World} {b n : Nat} {f : Lit → Option Value} {t e : TypeId}
theorem GM.lt (h : GM K w b n f) : b < w.heap.size := by obtain ⟨D, h, _⟩ := h; exact h.lt
theorem GM.kept {w' : World} (h : GM K w b n f) (e : w'.heap[b]? = w.heap[b]?) : GM K w' b n f := by
  obtain ⟨D, ⟨es, clock, hb, F, hs, hD⟩, hS⟩ := h
  exact ⟨D, ⟨es, clock, e.trans hb, F, hs, hD⟩, hS⟩
theorem GM.mono {n' : Nat} (h : GM K w b n f) (hn : n ≤ n') : GM K w b n' f := by
  obtain ⟨D, h, hS⟩ := h; exact ⟨D, h.mono hn, hS⟩
theorem GM.congr {g : Lit → Option Value} (h : GM K w b n f) (e : ∀ x, WideAt.IsKeyLit x → f x = g x) : GM K w b n g := by
  obtain ⟨D, h, hS⟩ := h
  exact ⟨D, h, ⟨hS.isMap, fun l hl => by rw [← e l hl]; exact hS.has l hl, fun l v z hl hv => hS.at_ l v z hl (by rw [e l hl]; exact hv)⟩⟩
theorem GM.made (K : TypeId) (w : World) (n : Nat) : GM K (w.alloc (.map #[] 0)) w.heap.size n (fun _ => none) := ⟨_, (World.ownsMap_made w Tryz.prog K rawR).mono (Nat.zero_le _), SaysL.empty⟩
theorem GM.look (h : GM K w b n f) (KD : Keyed Tryz.prog K) (ht : Tryz.prog.underlying t = some (.map K e)) {z : Value} (hz : (zeroValue e).run Tryz.prog w = .ok z w) {key : Value} {kl : Lit} (hk : keyOf Tryz.prog K key = some kl) :
    (Instr.lookup t (.map (some b)) key false).run Tryz.prog w = .ok ((f kl).getD z) w := by
  obtain ⟨D, ho, hS⟩ := h
  obtain ⟨v, ps, hrun, hv⟩ := ho.lookup KD ht hz (zd := .held z) (zp := []) rfl hk
  rw [hrun]
  have hd := rawR_inv hv
  have hl := KD.key hk
  cases hf : f kl with
  | none =>
    rw [atKey_of_not_has (by rw [hS.has _ hl, hf]; rfl)] at hd
    have hd := DataW.held.inj hd
    rw [hd]; rfl
  | some u =>
    rw [hS.at_ kl u _ hl hf] at hd
    have hd := DataW.held.inj hd
    rw [hd]; rfl
theorem GM.look_ok (h : GM K w b n f) (KD : Keyed Tryz.prog K) (ht : Tryz.prog.underlying t = some (.map K e)) {z : Value} (hz : (zeroValue e).run Tryz.prog w = .ok z w) {key : Value} {kl : Lit} (hk : keyOf Tryz.prog K key = some kl) :
    (Instr.lookup t (.map (some b)) key true).run Tryz.prog w = .ok (.tuple #[(f kl).getD z, .bool (f kl).isSome]) w := by
  obtain ⟨D, ho, hS⟩ := h
  obtain ⟨v, ps, hrun, hv⟩ := ho.look_ok KD ht hz (zd := .held z) (zp := []) rfl hk
  have hl := KD.key hk
  rw [hrun, hS.has _ hl]
  have hd := rawR_inv hv
  cases hf : f kl with
  | none =>
    rw [atKey_of_not_has (by rw [hS.has _ hl, hf]; rfl)] at hd
    have hd := DataW.held.inj hd
    rw [hd]; rfl
  | some u =>
    rw [hS.at_ kl u _ hl hf] at hd
    have hd := DataW.held.inj hd
    rw [hd]; rfl
theorem GM.store (h : GM K w b n f) (KD : Keyed Tryz.prog K) (ht : Tryz.prog.underlying t = some (.map K e)) (hn : n < maxLen) {key : Value} {kl : Lit} (hk : keyOf Tryz.prog K key = some kl) (v : Value) :
    ∃ w', (Instr.mapUpdate t (.map (some b)) key v).run Tryz.prog w = .ok () w' ∧ GM K w' b (n + 1) (updL f kl (some v)) ∧ w.mapTurned w' b := by
  obtain ⟨D, ho, hS⟩ := h
  obtain ⟨w', hrun, ho', ht'⟩ := ho.store KD ht hn hk (d := .held v) (ps := []) (val := v) rfl
  exact ⟨w', hrun, ⟨_, ho', hS.put (KD.key hk) v⟩, ht'⟩
/-- 'm[k] op= v': an entry is found or made, then written. -/
theorem GM.bump (h : GM K w b n f) (KL : WideMaps.KeyLaw Tryz.prog K) (ht : Tryz.prog.underlying t = some (.map K e)) (hn : n < maxLen) {z : Value} (hz : ∀ u : World, (zeroValue e).run Tryz.prog u = .ok z u) {key : Value} {kl : Lit} (hk : keyOf Tryz.prog K key = some kl) :
    ∃ (v0 : Value) (st : Nat) (w1 : World), (Instr.mapEntry t (.map (some b)) key).run Tryz.prog w = .ok (.tuple #[v0, .int .i64 (st : Int)]) w1 ∧ w.mapTurned w1 b ∧
      ∀ v, ∃ w', (Instr.entryStore t (.map (some b)) (.int .i64 (st : Int)) v).run Tryz.prog w1 = .ok () w' ∧ GM K w' b (n + 1) (updL f kl (some v)) ∧ w.mapTurned w' b := by
  have h0 := h
  obtain ⟨D, ⟨es, clock, hb, F, hs, hD⟩, hS⟩ := h
  obtain ⟨v0, st, es1, clock1, h1, _, h3⟩   := WideElems.entry_then_store KL ht hz hb F hk
  refine ⟨v0, st, _, h1, ⟨es, clock, es1, clock1, hb, rfl⟩, fun v => ?_⟩
  obtain ⟨w', q1, q2, q3⟩ := h0.store (Keyed.of_law KL) ht hn hk v
  have hbl : b < w.heap.size := (Array.getElem?_eq_some_iff.1 hb).1
  obtain ⟨es', clock', r1, r2⟩ := h3 (ChangeMaps.setBlock w b (.map es1 clock1)) v (by simp [ChangeMaps.setBlock, hbl])
  have e : ChangeMaps.setBlock (ChangeMaps.setBlock w b (.map es1 clock1)) b (.map es' clock') = w' := by
    have : (Result.ok () (ChangeMaps.setBlock w b (.map es' clock')) : Result Unit) = .ok () w' := r2.symm.trans q1
    injection this with _ this
    rw [← this]
    simp [ChangeMaps.setBlock]
  exact ⟨w', by rw [← e]; exact r1, q2, q3⟩
/-- 'm[k]' found or made: what stood there stays, or what its type begins with stands there. -/
theorem GM.entry (h : GM K w b n f) (KL : WideMaps.KeyLaw Tryz.prog K) (ht : Tryz.prog.underlying t = some (.map K e)) (hn : n < maxLen) {z : Value} (hz : ∀ u : World, (zeroValue e).run Tryz.prog u = .ok z u) {key : Value} {kl : Lit} (hk : keyOf Tryz.prog K key = some kl) :
    ∃ (v0 : Value) (st : Nat) (w1 : World), (Instr.mapEntry t (.map (some b)) key).run Tryz.prog w = .ok (.tuple #[v0, .int .i64 (st : Int)]) w1 ∧ w.mapTurned w1 b ∧ GM K w1 b (n + 1) (updL f kl (some ((f kl).getD z))) ∧
      ∀ v, ∃ w', (Instr.entryStore t (.map (some b)) (.int .i64 (st : Int)) v).run Tryz.prog w1 = .ok () w' ∧ GM K w' b (n + 1) (updL f kl (some v)) ∧ w.mapTurned w' b := by
  obtain ⟨v0, st, w1, h1, h2, h3⟩ := h.bump KL ht hn hz hk
  refine ⟨v0, st, w1, h1, h2, ?_, h3⟩
  have h0 := h
  obtain ⟨D, ⟨es, clock, hb, F, hs, hD⟩, hS⟩ := h
  have hbl : b < w.heap.size := (Array.getElem?_eq_some_iff.1 hb).1
  have hl := h0.look_ok (Keyed.of_law KL) ht (hz w) hk
  rcases KL.find w hk es.toList F.keys with ⟨q1, q2⟩ | ⟨j, e0, q1, q2, q3⟩
  · have hL : (Instr.lookup t (.map (some b)) key true).run Tryz.prog w = .ok (.tuple #[z, .bool false]) w := by
      simp [Instr.lookup, Go.run_underlying ht, MapKept.run_getObj_map hb, KL.check w es.isEmpty hk, q1, hz, Result.andThen]
    rw [hL] at hl
    have hv : (f kl).getD z = z := by injection hl with hl _; injection hl with hl; simp at hl; exact hl.1.symm
    obtain ⟨w', p1, p2, p3⟩ := h0.store (Keyed.of_law KL) ht hn hk z
    have e1 : (Instr.mapEntry t (.map (some b)) key).run Tryz.prog w = .ok (.tuple #[z, goInt clock]) (ChangeMaps.setBlock w b (.map (es.push ⟨key, z, clock⟩) (clock + 1))) := by
      simp [Instr.mapEntry, Go.run_underlying ht, MapKept.run_getObj_map hb, KL.check w false hk, q1, hz, MapKept.run_setObj_map _ hb, Result.andThen, ChangeMaps.setBlock]
    have e2 : (Instr.mapUpdate t (.map (some b)) key z).run Tryz.prog w = .ok () (ChangeMaps.setBlock w b (.map (es.push ⟨key, z, clock⟩) (clock + 1))) := by
      simp [Instr.mapUpdate, Go.run_underlying ht, MapKept.run_getObj_map hb, KL.check w false hk, q1, MapKept.run_setObj_map _ hb, Result.andThen, ChangeMaps.setBlock]
    rw [h1] at e1
    rw [p1] at e2
    injection e1 with _ e1
    injection e2 with _ e2
    rw [hv, e1, ← e2]
    exact p2
  · have hj : es[j]? = some e0 := by simpa using q2
    have hsame : es.modify j (fun e => { e with key := key }) = es := by
      apply Array.ext'
      rw [Array.toList_modify, ChangeMaps.modify_eq_set _ _ _ _ q2]
      have : ({ e0 with key := key } : MapEntry) = e0 := by rw [← q3]
      rw [this]
      exact WideElems.set_self _ _ _ q2
    have hL : (Instr.lookup t (.map (some b)) key true).run Tryz.prog w = .ok (.tuple #[e0.val, .bool true]) w := by
      simp [Instr.lookup, Go.run_underlying ht, MapKept.run_getObj_map hb, KL.check w es.isEmpty hk, q1, Result.andThen]
    rw [hL] at hl
    have hv : (f kl).isSome = true := by injection hl with hl _; injection hl with hl; simp at hl; exact hl.2
    have e1 : (Instr.mapEntry t (.map (some b)) key).run Tryz.prog w = .ok (.tuple #[e0.val, goInt e0.born]) (ChangeMaps.setBlock w b (.map es clock)) := by
      simp [Instr.mapEntry, Go.run_underlying ht, MapKept.run_getObj_map hb, KL.check w false hk, q1, hj, q3, KL.stays w hk, hsame, MapKept.run_setObj_map _ hb, Result.andThen, ChangeMaps.setBlock]
    rw [h1] at e1
    injection e1 with _ e1
    obtain ⟨u, hu⟩ := Option.isSome_iff_exists.1 hv
    refine ((h0.kept (w' := w1) (by rw [e1, hb]; simp [ChangeMaps.setBlock, hbl])).mono (Nat.le_succ n)).congr (fun y hy => ?_)
    rw [hu]
    unfold updL
    split
    · rename_i hc
      rw [(WideAt.sameKey_iff ((Keyed.of_law KL).key hk)).1 hc, hu]; rfl
    · rfl
theorem GM.drop (h : GM K w b n f) (KD : Keyed Tryz.prog K) (ht : Tryz.prog.underlying t = some (.map K e)) {key : Value} {kl : Lit} (hk : keyOf Tryz.prog K key = some kl) (ty : TypeId) :
    ∃ w', (Builtin.delete_ #[t, K] ty #[.map (some b), key]).run Tryz.prog w = .ok (.tuple #[]) w' ∧ GM K w' b n (updL f kl none) ∧ w.mapTurned w' b := by
  obtain ⟨D, ho, hS⟩ := h
  obtain ⟨w', hrun, ho', ht'⟩ := ho.drop KD ht hk ty
  exact ⟨w', hrun, ⟨_, ho', hS.del (KD.key hk)⟩, ht'⟩
/-- A map's block is no block of cells. -/
theorem GM.ne_cells {j : Nat} (h : GM K w j n f) {c : Array Value} {t : TypeId} {fr : Nat × Nat} (hb : w.heap[b]? = some (.cells c t fr)) : j ≠ b := by
  obtain ⟨D, ⟨es, clock, hj, _⟩, _⟩ := h
  rintro rfl; rw [hj] at hb; cases hb
/-- No more entries than keys that may be. -/
theorem GM.tight (h : GM K w b n f) (KD : Keyed Tryz.prog K) (S : List Lit) (hS : ∀ l, WideAt.IsKeyLit l → (f l).isSome = true → l ∈ S) : GM K w b S.length f := by
  obtain ⟨D, ho, hD⟩ := h
  obtain ⟨es', rfl, hpw, hkl⟩ := ho.entries KD
  refine ⟨_, ?_, hD⟩
  obtain ⟨es, clock, hb, F, hs, hE⟩ := ho
  refine ⟨es, clock, hb, F, ?_, hE⟩
  have e1 : es.size = es'.length := by
    have := congrArg Maps.size hE
    simp [Maps.size, length_sorted] at this
    exact this.symm
  rw [e1]
  have hnd : (es'.map (·.1)).Nodup := List.pairwise_map.2 hpw
  have hsub : ∀ l ∈ es'.map (·.1), l ∈ S := fun l hl => by
    obtain ⟨p, hp, rfl⟩ := List.mem_map.1 hl
    refine hS _ (hkl p hp) ?_
    rw [← hD.has _ (hkl p hp), has_eq, List.any_eq_true]
    exact ⟨p, hp, WideAt.sameKey_self (hkl p hp)⟩
  have := nodup_le _ S hnd hsub
  simpa using this
end
/-! ### keys -/
/-- What a string reads as. -/
def sk (s : ByteArray) : Lit := .string s.data.toList
theorem key_s {s : ByteArray} (h : s.size ≤ 9223372036854775807) : keyOf Tryz.prog 9 (.string s) = some (sk s) := by
  have hm : s.size ≤ maxLen := h
  simp [keyOf, Tryz.underlying9, mapKey, hm, sk]
theorem sk_inj {s t : ByteArray} (h : sk s = sk t) : s = t := by
  unfold sk at h
  injection h with h
  cases s; cases t
  congr
  exact Array.toList_inj.1 h
theorem sk_key (s : ByteArray) : WideAt.IsKeyLit (sk s) := trivial
theorem wf_lit {x : Int} (h : Wf x) : (Lit.int .i64 x).wf = true := by
  have hlo : IntKind.i64.min = -9223372036854775808 := by decide
  have hhi : IntKind.i64.max = 9223372036854775807 := by decide
  simp [Lit.wf, hlo, hhi]; exact h
theorem laidOutK : laidOutB Tryz.prog = true := by kernel_rfl
theorem strCells : Tryz.prog.cellsOf 9 = 1 := by kernel_rfl
theorem intCells : Tryz.prog.cellsOf 3 = 1 := by kernel_rfl
/-! quants' keys -/
abbrev kyT : TypeId := 56
theorem kyRow : kyT < Tryz.prog.types.size := of_decide_eq_true (by kernel_rfl)
theorem kyWide : (match Tryz.prog.underlying kyT with | some (.array _ _) | some (.struct _) => true | _ => false) = true := by rw [Tryz.underlying56]
theorem kyLaw : WideMaps.KeyLaw Tryz.prog kyT := deep_law_laid laidOutK (m := 2) (by omega) kyRow (by kernel_rfl) kyWide
theorem kyIs : Tryz.prog.keyType kyT = true := by kernel_rfl
theorem kyCells : Tryz.prog.cellsOf kyT = 4 := by kernel_rfl
/-- A key whose texts and number are as a machine holds them. -/
def Ky.mild (k : Ky) : Prop := k.bin.size ≤ 9223372036854775807 ∧ k.item.size ≤ 9223372036854775807 ∧ k.lot.size ≤ 9223372036854775807 ∧ Wf k.st
def kyl (k : Ky) : List Lit := [sk k.bin, sk k.item, sk k.lot, .int .i64 k.st]
theorem kyLits (d : Nat) {k : Ky} (h : k.mild) : Tryz.prog.keyLits (d + 1 + 1) kyT k.cells = some (kyl k) := by
  obtain ⟨h1, h2, h3, h4⟩ := h
  have m1 : k.bin.size ≤ maxLen := h1
  have m2 : k.item.size ≤ maxLen := h2
  have m3 : k.lot.size ≤ maxLen := h3
  simp [Program.keyLits, Tryz.underlying56, Tryz.underlying3, Tryz.underlying9, Ky.cells, m1, m2, m3, wf_lit h4, kyCells, strCells, intCells, kyl, sk]
def kk (k : Ky) : Lit := .string (keyBytes (kyl k))
theorem key_k {k : Ky} (h : k.mild) : keyOf Tryz.prog kyT (.agg k.cells.toArray) = some (kk k) := by
  have h1 : (Value.agg k.cells.toArray).formed Tryz.prog kyT = true := by simp [Value.formed, Tryz.underlying56, kyCells, Ky.cells]
  have hr := kyRow
  obtain ⟨d, hd⟩ : ∃ d, Tryz.prog.types.size = d + 1 := by
    cases h : Tryz.prog.types.size with
    | zero => rw [h] at hr; exact absurd hr (Nat.not_lt_zero _)
    | succ d => exact ⟨d, rfl⟩
  have h2 := kyLits d h
  rw [← hd] at h2
  unfold keyOf
  rw [Tryz.underlying56]
  simp only [kyIs, h1, Bool.and_self, if_true]
  show (Tryz.prog.keyLits (Tryz.prog.types.size + 1) kyT k.cells).map _ = _
  rw [h2]
  rfl
theorem kk_inj {k k' : Ky} (h : k.mild) (h' : k'.mild) (e : kk k = kk k') : k = k' := by
  have h1 := key_k h
  rw [e] at h1
  have := kyLaw.inj h1 (key_k h')
  injection this with this
  exact Ky.cells_inj (by simpa using congrArg Array.toList this)
/-! stands -/
abbrev sdT : TypeId := 112
theorem sdRow : sdT < Tryz.prog.types.size := of_decide_eq_true (by kernel_rfl)
theorem sdWide : (match Tryz.prog.underlying sdT with | some (.array _ _) | some (.struct _) => true | _ => false) = true := by rw [Tryz.underlying112]
theorem sdLaw : WideMaps.KeyLaw Tryz.prog sdT := deep_law_laid laidOutK (m := 3) (by omega) sdRow (by kernel_rfl) sdWide
theorem sdIs : Tryz.prog.keyType sdT = true := by kernel_rfl
theorem sdCells : Tryz.prog.cellsOf sdT = 8 := by kernel_rfl
def Sd.ky (x : Sd) : Ky := ⟨x.bin, x.item, x.lot, x.st⟩
def Sd.mild (x : Sd) : Prop := x.ky.mild ∧ x.site.size ≤ 9223372036854775807 ∧ Wf x.day ∧ Wf x.twin ∧ Wf x.free
def sdl (x : Sd) : List Lit := [sk x.bin, sk x.item, sk x.lot, .int .i64 x.st, sk x.site, .int .i64 x.day, .int .i64 x.twin, .int .i64 x.free]
theorem sdLits (d : Nat) {x : Sd} (h : x.mild) : Tryz.prog.keyLits (d + 1 + 1 + 1) sdT x.cells = some (sdl x) := by
  obtain ⟨h1, h2, h3, h4, h5⟩ := h
  have m1 : x.site.size ≤ maxLen := h2
  have hk := kyLits d h1
  simp only [Sd.ky, Ky.cells] at hk
  have hs : Tryz.prog.keyLits (d + 1 + 1) 9 [.string x.site] = some [sk x.site] := by simp [Program.keyLits, Tryz.underlying9, m1, sk]
  have hi : ∀ z : Int, Wf z → Tryz.prog.keyLits (d + 1 + 1) 3 [.int .i64 z] = some [.int .i64 z] := fun z hz => by simp [Program.keyLits, Tryz.underlying3, wf_lit hz]
  rw [show d + 1 + 1 + 1 = (d + 1 + 1) + 1 from rfl]
  unfold Program.keyLits
  simp [Tryz.underlying112, Sd.cells, sdCells, kyCells, strCells, intCells, hk, hs, hi _ h3, hi _ h4, hi _ h5, kyl, sdl]
def sdk (x : Sd) : Lit := .string (keyBytes (sdl x))
theorem key_sd {x : Sd} (h : x.mild) : keyOf Tryz.prog sdT (.agg x.cells.toArray) = some (sdk x) := by
  have h1 : (Value.agg x.cells.toArray).formed Tryz.prog sdT = true := by simp [Value.formed, Tryz.underlying112, sdCells, Sd.cells]
  have hr : 2 ≤ Tryz.prog.types.size := of_decide_eq_true (by kernel_rfl)
  obtain ⟨d, hd⟩ : ∃ d, Tryz.prog.types.size = d + 1 + 1 := ⟨Tryz.prog.types.size - 2, by omega⟩
  have h2 := sdLits d h
  rw [← hd] at h2
  unfold keyOf
  rw [Tryz.underlying112]
  simp only [sdIs, h1, Bool.and_self, if_true]
  show (Tryz.prog.keyLits (Tryz.prog.types.size + 1) sdT x.cells).map _ = _
  rw [h2]
  rfl
theorem sd_inj {x y : Sd} (h : x.cells = y.cells) : x = y := by
  have := congrArg sdOf h
  exact this
theorem sdk_inj {x y : Sd} (h : x.mild) (h' : y.mild) (e : sdk x = sdk y) : x = y := by
  have h1 := key_sd h
  rw [e] at h1
  have := sdLaw.inj h1 (key_sd h')
  injection this with this
  exact sd_inj (by simpa using congrArg Array.toList this)
/-! ### what may turn -/
/-- Of what lay in w only blocks of which X holds may have turned. -/
structure Onx (X : Nat → Prop) (w w' : World) : Prop where
  os : w'.os = w.os
  tape : w'.tape = w.tape
  output : w'.output = w.output
  size : w.heap.size ≤ w'.heap.size
  block : ∀ k, k < w.heap.size → ¬ X k → w'.heap[k]? = w.heap[k]?
theorem Onx.refl (X : Nat → Prop) (w : World) : Onx X w w := ⟨rfl, rfl, rfl, Nat.le_refl _, fun _ _ _ => rfl⟩
theorem Onx.trans {X Y Z : Nat → Prop} {a b c : World} (h : Onx X a b) (k : Onx Y b c) (hX : ∀ i, X i → Z i) (hY : ∀ i, Y i → i < a.heap.size → Z i) : Onx Z a c :=
  ⟨k.os.trans h.os, k.tape.trans h.tape, k.output.trans h.output, Nat.le_trans h.size k.size, fun i hi hz => (k.block i (Nat.lt_of_lt_of_le hi h.size) (fun y => hz (hY i y hi))).trans (h.block i hi (fun x => hz (hX i x)))⟩
theorem Onx.tr {X : Nat → Prop} {a b c : World} (h : Onx X a b) (k : Onx X b c) : Onx X a c := h.trans k (fun _ x => x) (fun _ x _ => x)
theorem Onx.mono {X Y : Nat → Prop} {a b : World} (h : Onx X a b) (hX : ∀ i, X i → i < a.heap.size → Y i) : Onx Y a b :=
  ⟨h.os, h.tape, h.output, h.size, fun i hi hy => h.block i hi (fun x => hy (hX i x hi))⟩
theorem Onx.below {X : Nat → Prop} {a b : World} {B : Nat} (h : Below B a b) (hX : ∀ i, B ≤ i → i < a.heap.size → X i) : Onx X a b := ⟨h.os, h.tape, h.output, h.size, fun i hi hx => h.block i (by
  rcases Nat.lt_or_ge i B with h | h
  · exact h
  · exact (hx (hX i h hi)).elim)⟩
theorem Onx.to_below {X : Nat → Prop} {a b : World} {B : Nat} (h : Onx X a b) (hB : B ≤ a.heap.size) (hX : ∀ i, X i → i < a.heap.size → B ≤ i) : Below B a b :=
  ⟨h.os, h.tape, h.output, h.size, fun i hi => h.block i (by omega) (fun x => by have := hX i x (by omega); omega)⟩
theorem Onx.turned {X : Nat → Prop} {a b : World} {j : Nat} (h : a.mapTurned b j) (hX : X j) : Onx X a b := by
  have hg := h.grown
  exact ⟨hg.os, hg.tape, hg.output, hg.size, fun i hi hx => hg.block i hi (fun e => hx (by injection e with e; subst e; exact hX))⟩
theorem Onx.alloc {X : Nat → Prop} (w : World) (o : Obj) : Onx X w (w.alloc o) := Onx.below ((Below.refl _ _).alloc (Nat.le_refl _) o) (fun i h1 h2 => by omega)
theorem Onx.drew {X : Nat → Prop} {a w : World} (h : Onx X a w) : Onx X a w.drew := ⟨h.os, h.tape, h.output, h.size, h.block⟩
end Go.Proofs.YtnkhnbpopdmkhaaGreat
