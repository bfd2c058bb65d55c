/-
 PLAIN: claims of an order taken away one by one; APPEND onto an own row, which keeps every other block.
-/
import Derived.Test.YtlkmccmbpnbgbaaGreatAFacts
import Derived.Test.YtlkmccmbpnbgbaaGreatHAppK
namespace Go.Proofs.YtlkmccmbpnbgbaaGreat
set_option linter.unusedVariables false
open Go.RowKit
open Pl (firstG firstG_none firstG_some findG overG putG dropG It)

theorem dropG_mid {ord : List Value → List Value → Int} {e : List Value} {l : List (List Value)} (he : ord e e = 0) : ∀ pre : List (List Value), (∀ p ∈ pre, ord p e ≠ 0) → dropG ord (pre ++ e :: l) e = pre ++ l
 | [], _ => by rw [List.nil_append, Pl.dropG_cons, if_pos (by rw [he]; rfl)]; rfl
 | p :: pre, h => by
  rw [List.cons_append, Pl.dropG_cons, if_neg (by simpa using h p (by simp)), dropG_mid he pre (fun q hq => h q (by simp [hq]))]; rfl
theorem ordClaim_self (e : List Value) : ordClaim e e = 0 := (ordCl_zero _ _).2 ⟨rfl, rfl, rfl, rfl⟩
theorem chain_filter (s : ByteArray) : ∀ (l pre : List (List Value)), (∀ p ∈ pre, ofOrd s p = false) → (l.filter (ofOrd s)).foldl (fun a c => dropG ordClaim a c) (pre ++ l) = pre ++ l.filter (fun e => !(ofOrd s e))
 | [], pre, _ => rfl
 | e :: l, pre, h => by
  cases he : ofOrd s e with
  | true =>
   rw [List.filter_cons_of_pos he, List.foldl_cons, dropG_mid (ordClaim_self e) pre (fun p hp h0 => by
    have h1 := ((ordCl_zero _ _).1 h0).1
    have h2 := h p hp
    unfold ofOrd at h2 he
    rw [h1, he] at h2; cases h2), chain_filter s l pre h, List.filter_cons_of_neg (by rw [he]; simp)]
  | false =>
   rw [List.filter_cons_of_neg (by rw [he]; simp), List.filter_cons_of_pos (by rw [he]; rfl)]
   have := chain_filter s l (pre ++ [e]) (fun p hp => by
    rcases List.mem_append.1 hp with h1 | h1
    · exact h p h1
    · rw [List.mem_singleton.1 h1]; exact he)
   rw [List.append_assoc, List.append_assoc] at this
   exact this
theorem relM8 (C : List (List Value)) (M : HL) : ∀ k, k ≤ C.length → relM C M k 8 = (C.take k).foldl (fun a c => dropG ordClaim a c) (M 8)
 | 0, _ => rfl
 | k + 1, h => by
  rw [relM_succ, setE_at rfl, relM8 C M k (by omega), List.take_succ_eq_append_getElem (by omega), List.foldl_append, List.getD_eq_getElem?_getD, List.getElem?_eq_getElem (by omega)]
  rfl
theorem rel_filter (L : HL) (s : ByteArray) : relM (claimsL (L 8) s) L (claimsL (L 8) s).length 8 = (L 8).filter (fun e => !(ofOrd s e)) := by
 rw [relM8 _ _ _ (Nat.le_refl _), List.take_length]
 exact chain_filter s (L 8) [] (fun p hp => by simp at hp)
/-- The claims of the order among the first k. -/
theorem filt_at {p : List Value → Bool} (l : List (List Value)) {k : Nat} (hk : k < l.length) (hp : p l[k] = true) : (l.filter p).getD ((l.take k).filter p).length [] = l[k] ∧ ((l.take k).filter p).length < (l.filter p).length := by
 have h1 : l = l.take k ++ l[k] :: l.drop (k + 1) := by rw [← List.drop_eq_getElem_cons hk, List.take_append_drop]
 have h2 : l.filter p = (l.take k).filter p ++ l[k] :: (l.drop (k + 1)).filter p := by
  conv => lhs; rw [h1]
  rw [List.filter_append, List.filter_cons_of_pos hp]
 constructor
 · rw [h2, List.getD_eq_getElem?_getD, List.getElem?_append_right (Nat.le_refl _)]; simp
 · rw [h2, List.length_append, List.length_cons]; omega
theorem filt_snoc (p : List Value → Bool) (l : List (List Value)) {k : Nat} (hk : k < l.length) : (l.take (k + 1)).filter p = if p l[k] = true then (l.take k).filter p ++ [l[k]] else (l.take k).filter p := by
 rw [List.take_succ_eq_append_getElem hk, List.filter_append]
 by_cases h : p l[k] = true
 · rw [if_pos h, List.filter_cons_of_pos h]; rfl
 · rw [if_neg h, List.filter_cons_of_neg h]; simp
theorem filt_take_le (p : List Value → Bool) (l : List (List Value)) (k : Nat) : ((l.take k).filter p).length ≤ (l.filter p).length := by
 conv => rhs; rw [← List.take_append_drop k l]
 rw [List.filter_append, List.length_append]; omega
theorem filt_le2 (p : List Value → Bool) (l : List (List Value)) (k : Nat) : ((l.take k).filter p).length ≤ k := Nat.le_trans (List.length_filter_le _ _) (List.length_take_le _ _)

/-- An own row grows by one thing: all other blocks stay, its block is the elder one or a new one. -/
theorem wpList_appO {P : Program} {w : World} {ops : Array Oper} {rest : List Oper} {o : Oper} {a : Act} {Q : Exit → Act → World → Prop} (hgd : o.guard = none) (s x : Operand) (t : TypeId)
 (ho : o.op = .call { callee := .builtin .append, args := #[s, x], argTypes := #[t, t] })
 (base : Nat) (e : TypeId) (i : TypeInfo) (z : Value) (size bytes : Nat) (ht : P.underlying t = some (.slice e)) (hi : P.info? e = some i) (hz : i.zero = some z)
 (hsize : i.size = size) (hby : i.bytes = bytes) (hzs : z.cells.size = size) (hsz : 0 < size)
 (A : Option Addr) (n c : Nat) (xs : List Value) (hs : a.eval s = .slice A n c) (hown : w.ownsRow base e size (.slice A n c) n xs)
 (B2 : Nat) (ad : Addr) (m c2 : Nat) (news : List Value) (hx : a.eval x = .slice (some ad) m c2) (hl : news.length = m * size) (hpos : 0 < news.length) (hr : Rd w B2 (some ad) news) (h1 : ∀ u ∈ news, u.oneCell' = true)
 (h63 : n + m ≤ maxLen) (hbytes : (n + m) * bytes ≤ 140737488355328) (hbase : base ≤ w.heap.size)
 (h : ∀ A' c' w', w'.ownsRow base e size (.slice A' (n + m) c') (n + m) (xs ++ news) → Below base w w' → (∀ q, q < w.heap.size → (Value.slice A n c).ownBlock ≠ some q → w'.heap[q]? = w.heap[q]?) → (∀ q, (Value.slice A' (n + m) c').ownBlock = some q → (Value.slice A n c).ownBlock = some q ∨ q = w.heap.size) → wpList P ops Q rest (a.put o.dst (.slice A' (n + m) c')) w') : wpList P ops Q (o :: rest) a w := by
 have hcells : ∀ j u, news[j]? = some u → w.cell? (ad.add j) = some u := fun j u hu => by
  obtain ⟨b, off, he, _, hc⟩ := hr hpos
  injection he with he
  subst he
  rw [Addr.add_lit]
  exact hc j u hu
 obtain ⟨v', w', hrun, hown', hg, _, hob⟩ := run_append_own_at (P := P) w base t o.type e i z size bytes ht hi hz hsize hby hzs hsz _ n xs hown ad m c2 news hl hcells h1 h63 hbytes hbase
 obtain ⟨A', c', rfl, _⟩ := own_form hown'
 refine wpList_plain hgd fun K hK => ?_
 unfold Oper.wp execOp
 simp only [ho, resolve, invoke, builtin, Sem.run_bind, Sem.run_pure, Result.andThen_ok, List.map_toArray, List.map_cons, List.map_nil, hs, hx, hrun]
 refine hK _ _ (h A' c' w' hown' ((Below.refl _ _).grown hg hbase (fun k hk => own_base hown k hk)) (fun q hq hne => hg.block _ hq (fun e => hne e.symm)) (fun q hq => ?_))
 rcases hob with h2 | h2
 · exact .inl (h2 ▸ hq)
 · rw [h2] at hq; injection hq with hq; exact .inr hq.symm
/-- A house whose lists lie elsewhere. -/
theorem HT.kept {a : Hs} {L : HL} {W W' : World} {v : Value} (h : HT a L W) (hk : ∀ q, q < W.heap.size → v.ownBlock ≠ some q → W'.heap[q]? = W.heap[q]?) (hs : W.heap.size ≤ W'.heap.size) (ho : ∀ q, v.ownBlock = some q → Off q a L) : HT a L W' := fun i hi => by
 obtain ⟨h1, h2, h3, h4⟩ := h i hi
 refine ⟨h1, h2, h3, fun hx => ?_⟩
 obtain ⟨b, off, hA, hb, hc⟩ := h4 hx
 have hne : L i ≠ [] := fun e => by rw [e] at hx; exact absurd hx (by simp)
 have hb' : b < W.heap.size := hb
 exact ⟨b, off, hA, Nat.lt_of_lt_of_le hb hs, fun j u hu => (World.cell?_of_block (hk b hb' (fun e => ho b e i hi hne _ hA rfl))).trans (hc j u hu)⟩
end Go.Proofs.YtlkmccmbpnbgbaaGreat
