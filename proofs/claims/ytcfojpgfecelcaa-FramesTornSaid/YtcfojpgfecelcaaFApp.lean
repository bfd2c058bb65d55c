/-
  LAWS: append of whatever slice of texts onto an own row of texts.
-/
import Derived.Test.YtcfojpgfecelcaaFLaw
namespace Go.Proofs.Ytcfojpgfecelcaa
open Go.RowKit

theorem own_empty (w : World) : (w.alloc (.cells #[] 9)).ownsRow w.heap.size 9 1 (.slice (some ⟨w.heap.size, 0, none⟩) 0 0) 0 (sc []) :=
  World.ownsRow_lit w #[] 0 (Nat.le_refl _) (by simp only [maxLen]; omega) rfl

theorem wp_app_s {w : World} {o : Oper} {a : Act} {K : Act → World → Prop} {Q : Exit → Act → World → Prop} (s x : Operand)
    (ho : o.op = .call { callee := .builtin .append, args := #[s, x], argTypes := #[22, 22] })
    (base : Nat) (A : Option Addr) (n c : Nat) (xs : List ByteArray) (hs : a.eval s = .slice A n c) (hown : w.ownsRow base 9 1 (.slice A n c) n (sc xs))
    (B2 : Nat) (A2 : Option Addr) (m c2 : Nat) (news : List ByteArray) (hx : a.eval x = .slice A2 m c2) (hl : m = news.length) (hr : Rd w B2 A2 (sc news))
    (hbytes : (n + m) * 16 ≤ 140737488355328) (hbase : base ≤ w.heap.size)
    (h : ∀ A' c' w', w'.ownsRow base 9 1 (.slice A' (n + m) c') (n + m) (sc (xs ++ news)) → Below base w w' → K (a.put o.dst (.slice A' (n + m) c')) w') : o.wp Try.prog a w K Q := by
  obtain ⟨i0, hi, hz0, hz1, hz2⟩ := info_parts infoS
  exact wp_app s x 22 ho base 9 i0 _ 1 16 Try.underlying22 hi hz0 hz1 hz2 rfl (by decide) A n c (sc xs) hs hown B2 A2 m c2 (sc news) hx (by rw [sc_length, hl, Nat.mul_one]) hr (sc_one _) (by simp only [maxLen]; omega) hbytes hbase
    (fun A' c' w' h1 h2 => h A' c' w' (by rw [sc_append]; exact h1) h2)

theorem wpList_app_s {w : World} {ops : Array Oper} {rest : List Oper} {o : Oper} {a : Act} {Q : Exit → Act → World → Prop} (hgd : o.guard = none) (s x : Operand)
    (ho : o.op = .call { callee := .builtin .append, args := #[s, x], argTypes := #[22, 22] })
    (base : Nat) (A : Option Addr) (n c : Nat) (xs : List ByteArray) (hs : a.eval s = .slice A n c) (hown : w.ownsRow base 9 1 (.slice A n c) n (sc xs))
    (B2 : Nat) (A2 : Option Addr) (m c2 : Nat) (news : List ByteArray) (hx : a.eval x = .slice A2 m c2) (hl : m = news.length) (hr : Rd w B2 A2 (sc news))
    (hbytes : (n + m) * 16 ≤ 140737488355328) (hbase : base ≤ w.heap.size)
    (h : ∀ A' c' w', w'.ownsRow base 9 1 (.slice A' (n + m) c') (n + m) (sc (xs ++ news)) → Below base w w' → wpList Try.prog ops Q rest (a.put o.dst (.slice A' (n + m) c')) w') : wpList Try.prog ops Q (o :: rest) a w :=
  wpList_plain hgd fun _ hK => wp_app_s s x ho base A n c xs hs hown B2 A2 m c2 news hx hl hr hbytes hbase fun A' c' w' h2 h3 => hK _ _ (h A' c' w' h2 h3)
end Go.Proofs.Ytcfojpgfecelcaa
