/-
 REGIONS whose n'th operation writes where others read, with operations behind it: as LastW (HA), but S is asked for only as long as the n'th is undone.
-/
import Derived.Test.YtlkmccmbpnbgbaaGreatHA
namespace Go.Proofs.YtlkmccmbpnbgbaaGreat
set_option linter.unusedVariables false
open Go.RowKit

section
variable {P : Program} {ops : Array Oper} {Q : Exit → Act → World → Prop} {md : Region.Mode} {S : World → Prop} {n : Nat}
/-- Whatever order comes, S holds behind each operation but the n'th. -/
def LastN (P : Program) (md : Region.Mode) (ops : Array Oper) (Q : Exit → Act → World → Prop) (S : World → Prop) (n : Nat) : Nat → Array Bool → Act → World → Prop
 | 0, l, a, w => Region.ready md ops l = [] ∧ Q .normal a w
 | f + 1, l, a, w => (Region.ready md ops l = [] → Q .normal a w) ∧ ∀ i ∈ Region.ready md ops l, wpOp P ops Q i (fun a' w' => (l.getD n true = false → i ≠ n → S w') ∧ LastN P md ops Q S n f (l.setIfInBounds i true) a' w') a w
theorem LastN.any : ∀ (f : Nat) (l : Array Bool) (a : Act) (w : World), LastN P md ops Q S n f l a w → wpAny P md ops Q f l a w
 | 0, _, _, _, h => h
 | f + 1, _, _, _, h => ⟨h.1, fun i hi => wpOp_mono (fun a' w' h' => LastN.any f _ a' w' h'.2) (h.2 i hi)⟩
theorem LastN.first {i : Nat} {oi : Oper} {v : Value} (hi : ops[i]? = some oi) (hsel : ∀ (j : Nat) (o : Oper) cs b, ops[j]? = some o → o.op ≠ .select cs b)
 (hQ : ∀ c a w, Q (.panic c) (a.put oi.dst v) w → Q (.panic c) a w) (hw : waits md ops n i = true) (hne : i ≠ n) :
 ∀ (f : Nat) (l : Array Bool) (a : Act) (w : World), l.getD n true = false →
  (∀ j oj, ops[j]? = some oj → j ≠ i → l.getD j true = false → (∀ e ∈ oj.after, Region.binds md e = true → e.on ≠ i) → oi.apart ops oj = true) →
  i ∈ Region.ready md ops l → YieldsIf P ops S oi v a → S w →
  LastN P md ops Q S n f (l.setIfInBounds i true) (a.put oi.dst v) w → LastN P md ops Q S n (f + 1) l a w := by
 intro f
 induction f with
 | zero =>
  intro l a w _ _ hr hy hS H
  refine ⟨fun h => absurd hr (by rw [h]; simp), fun j hj => ?_⟩
  by_cases e : j = i
  · subst e; exact hy.wpOp hi hS ⟨fun _ _ => hS, H⟩
  · exact absurd (ready_mono hj e) (by rw [H.1]; simp)
 | succ f ih =>
  intro l a w hdn hfr hr hy hS H
  refine ⟨fun h => absurd hr (by rw [h]; simp), fun j hj => ?_⟩
  by_cases e : j = i
  · subst e; exact hy.wpOp hi hS ⟨fun _ _ => hS, H⟩
  · have hl := (mem_ready.1 hr).1
    have hjn : j ≠ n := fun h => not_ready hw hl (h ▸ hj)
    obtain ⟨hjl, oj, hoj, hall⟩ := mem_ready.1 hj
    have hno : ∀ x ∈ oj.after, Region.binds md x = true → x.on ≠ i := fun x hx hb hxi => by
     have h1 := hall x hx hb
     rw [hxi] at h1
     rcases Nat.lt_or_ge i l.size with h' | h'
     · simp [h'] at hl h1; rw [hl] at h1; cases h1
     · simp [Array.getElem?_eq_none h'] at h1
    have h2 := wpOp_putIf hoj (hfr j oj hoj e hjl hno) (fun cs b => hsel i oi cs b hi) (fun cs b => hsel j oj cs b hoj) hQ hy (H.2 j (ready_mono hj e))
    refine wpOp_mono (fun a' w' h3 => ⟨fun _ => h3.2.1 (by rw [getD_set_ne true hne]; exact hdn), ih (l.setIfInBounds j true) a' w' (by rw [getD_set_ne true hjn]; exact hdn) (fun k ok hk hki hun hx => hfr k ok hk hki ?_ hx) (ready_mono hr (Ne.symm e)) h3.1 (h3.2.1 (by rw [getD_set_ne true hne]; exact hdn) hjn) ?_⟩) h2
    · by_cases hjk : j = k
      · subst hjk; exact hjl
      · rw [getD_set_ne true hjk] at hun; exact hun
    · rw [Array.setIfInBounds_comm _ _ e]; exact h3.2.2
theorem LastN.take {i : Nat} {oi : Oper} {v : Value} {f : Nat} {l : Array Bool} {a : Act} {w : World} (hi : ops[i]? = some oi) (hs : Region.noSelect ops = true) (hf : Region.free md ops l i = true)
 (hr : (Region.ready md ops l).contains i = true) (hw : waits md ops n i = true) (hdn : l.getD n true = false) (hne : i ≠ n) (hQ : ∀ c a w, Q (.panic c) (a.put oi.dst v) w → Q (.panic c) a w) (hy : YieldsIf P ops S oi v a) (hS : S w)
 (h : LastN P md ops Q S n f (l.setIfInBounds i true) (a.put oi.dst v) w) : LastN P md ops Q S n (f + 1) l a w :=
 LastN.first hi (Region.noSelect_spec hs) hQ hw hne f l a w hdn (Region.free_spec hi hf) (by simpa using hr) hy hS h
/-- What looks at no memory may be taken at any time. -/
theorem LastN.firstP {i : Nat} {oi : Oper} {v : Value} (hi : ops[i]? = some oi) (hsel : ∀ (j : Nat) (o : Oper) cs b, ops[j]? = some o → o.op ≠ .select cs b)
 (hQ : ∀ c a w, Q (.panic c) (a.put oi.dst v) w → Q (.panic c) a w) (hne : i ≠ n) :
 ∀ (f : Nat) (l : Array Bool) (a : Act) (w : World), 
  (∀ j oj, ops[j]? = some oj → j ≠ i → l.getD j true = false → (∀ e ∈ oj.after, Region.binds md e = true → e.on ≠ i) → oi.apart ops oj = true) →
  i ∈ Region.ready md ops l → YieldsIf P ops (fun _ => True) oi v a → (l.getD n true = false → S w) →
  LastN P md ops Q S n f (l.setIfInBounds i true) (a.put oi.dst v) w → LastN P md ops Q S n (f + 1) l a w := by
 intro f
 induction f with
 | zero =>
  intro l a w _ hr hy hS H
  refine ⟨fun h => absurd hr (by rw [h]; simp), fun j hj => ?_⟩
  by_cases e : j = i
  · subst e; exact hy.wpOp hi trivial ⟨fun h9 _ => hS h9, H⟩
  · exact absurd (ready_mono hj e) (by rw [H.1]; simp)
 | succ f ih =>
  intro l a w hfr hr hy hS H
  refine ⟨fun h => absurd hr (by rw [h]; simp), fun j hj => ?_⟩
  by_cases e : j = i
  · subst e; exact hy.wpOp hi trivial ⟨fun h9 _ => hS h9, H⟩
  · have hl := (mem_ready.1 hr).1
    obtain ⟨hjl, oj, hoj, hall⟩ := mem_ready.1 hj
    have hno : ∀ x ∈ oj.after, Region.binds md x = true → x.on ≠ i := fun x hx hb hxi => by
     have h1 := hall x hx hb
     rw [hxi] at h1
     rcases Nat.lt_or_ge i l.size with h' | h'
     · simp [h'] at hl h1; rw [hl] at h1; cases h1
     · simp [Array.getElem?_eq_none h'] at h1
    have h2 := wpOp_putIf hoj (hfr j oj hoj e hjl hno) (fun cs b => hsel i oi cs b hi) (fun cs b => hsel j oj cs b hoj) hQ hy (H.2 j (ready_mono hj e))
    refine wpOp_mono (fun a' w' h3 => ⟨fun h9 => h3.2.1 (by rw [getD_set_ne true hne]; exact h9), ih (l.setIfInBounds j true) a' w' (fun k ok hk hki hun hx => hfr k ok hk hki ?_ hx) (ready_mono hr (Ne.symm e)) h3.1 (fun h9 => ?_) ?_⟩) h2
    · by_cases hjk : j = k
      · subst hjk; exact hjl
      · rw [getD_set_ne true hjk] at hun; exact hun
    · have hjn : j ≠ n := fun h => by
       subst h
       rcases Nat.lt_or_ge j l.size with h' | h'
       · simp [h'] at h9
       · simp [h'] at h9
      exact h3.2.1 (by rw [getD_set_ne true hne]; rwa [getD_set_ne true hjn] at h9) hjn
    · rw [Array.setIfInBounds_comm _ _ e]; exact h3.2.2
theorem LastN.pure {i : Nat} {oi : Oper} {v : Value} {f : Nat} {l : Array Bool} {a : Act} {w : World} (hi : ops[i]? = some oi) (hs : Region.noSelect ops = true) (hf : Region.free md ops l i = true)
 (hr : (Region.ready md ops l).contains i = true) (hne : i ≠ n) (hQ : ∀ c a w, Q (.panic c) (a.put oi.dst v) w → Q (.panic c) a w) (hy : YieldsIf P ops (fun _ => True) oi v a) (hS : l.getD n true = false → S w)
 (h : LastN P md ops Q S n f (l.setIfInBounds i true) (a.put oi.dst v) w) : LastN P md ops Q S n (f + 1) l a w :=
 LastN.firstP hi (Region.noSelect_spec hs) hQ hne f l a w (Region.free_spec hi hf) (by simpa using hr) hy hS h
/-- One alone may come up. -/
theorem LastN.one {i : Nat} {o : Oper} {f : Nat} {l : Array Bool} {a : Act} {w : World} (hr : Region.ready md ops l = [i]) (ho : ops[i]? = some o)
 (h : ∀ K : Act → World → Prop, Hid (∀ a w, (l.getD n true = false → i ≠ n → S w) → ((l.getD n true = false → i ≠ n → S w) → LastN P md ops Q S n f (l.setIfInBounds i true) a w) → K a w) → if Region.wanted o (yielded ops a.tmps) = true then Oper.wp P o a w K Q else K (a.put o.dst undef) w) :
 LastN P md ops Q S n (f + 1) l a w :=
 ⟨fun h0 => absurd (hr ▸ h0) (by simp), fun j hj => by
  rw [hr, List.mem_singleton] at hj
  subst hj
  exact wpOp_step ho fun K' hK => h K' (Lib.hid fun a w hS hW => hK a w ⟨hS, hW hS⟩)⟩
theorem LastN.done {l : Array Bool} {a : Act} {w : World} (hr : Region.ready md ops l = []) (h : Q .normal a w) : ∀ f, LastN P md ops Q S n f l a w
 | 0 => ⟨hr, h⟩
 | _ + 1 => ⟨fun _ => h, by rw [hr]; simp⟩
/-- The beginning, behind the draw; no way out by a panic. -/
theorem lastN_region {id : Nat} {a : Act} {w : World} (hm : P.follows .mixedOrders = true) (h : LastN P .any ops (NoPanic Q) S n ops.size (Array.replicate ops.size false) a w.drew) : (Code.region id ops true).wp P Q a w :=
 wp_region_noPanic (wp_region_any hm (h.any ..))
end
end Go.Proofs.YtlkmccmbpnbgbaaGreat
