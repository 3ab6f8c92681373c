/-
  OWN TEXT. 'append(nil, xs...)' as one step of a region that draws its order, over whatever program.
-/
import Derived.Test.YtfogdgnlbgoakacKit
import Derived.Deep.RegionLaw
namespace Go.Proofs.Ytfogdgnlbgoakac.Kit
open Go Go.RowKit

theorem step_append_nil {P : Program} {ops : Array Oper} {o : Oper} {a : Act} {w : World} {K : Act → World → Prop} {Q : Exit → Act → World → Prop} {E : Prop}
    (hg : o.guard = none) (s x : Operand) (t : TypeId) (hop : o.op = Op.call { callee := Callee.builtin Builtin.append, args := #[s, x], argTypes := #[t, t] })
    (e : TypeId) (i : TypeInfo) (z : Value) (size bytes : Nat) (h1 : P.underlying t = some (.slice e)) (h2 : P.info? e = some i) (h3 : i.zero = some z) (h4 : i.size = size) (h5 : i.bytes = bytes) (h6 : z.cells.size = size) (h7 : 0 < size)
    (hs : a.eval s = .slice none 0 0) (xo : Option Addr) (m c : Nat) (news : List Value) (hx : a.eval x = .slice xo m c) (hnil : xo = none → m = 0 ∧ c = 0) (hn : news.length = m * size)
    (hc : ∀ ad, xo = some ad → ∀ j u, news[j]? = some u → w.cell? (ad.add j) = some u) (h1c : ∀ u ∈ news, u.oneCell' = true)
    (b1 : m ≤ maxLen) (b2 : m * bytes ≤ 140737488355328)
    (hK : ∀ bo c' w', w'.ownsRow w.heap.size e size (.slice bo m c') m news → Below w.heap.size w w' → K (a.put o.dst (.slice bo m c')) w') :
    if Region.wanted o (yielded ops a.tmps) = true then Oper.wp P o a w K Q else E := by
  have hw : Region.wanted o (yielded ops a.tmps) = true := by simp [Region.wanted, hg]
  rw [if_pos hw]
  cases xo with
  | some ad =>
    obtain ⟨v', w', hrun, r1, r2, _⟩ := run_append_own (P := P) w w.heap.size t o.type e i z size bytes h1 h2 h3 h4 h5 h6 h7 (.slice none 0 0) 0 [] (World.ownsRow_nil w _ e size) ad m c news hn (hc ad rfl) h1c (by omega) (by simpa using b2) (Nat.le_refl _)
    simp only [Nat.zero_add, List.nil_append] at r1
    obtain ⟨bo, c', rfl⟩ := owns_shape r1
    unfold Oper.wp
    simp [execOp, hop, resolve, invoke, builtin, hs, hx, hrun, Result.andThen]
    exact hK bo c' w' r1 ((Below.refl _ _).grown r2 (Nat.le_refl _) (by simp [Value.ownBlock]))
  | none =>
    obtain ⟨rfl, rfl⟩ := hnil rfl
    obtain rfl : news = [] := List.eq_nil_of_length_eq_zero (by simpa using hn)
    have hrun := run_append_owned_none (P := P) (w := w) w.heap.size t o.type e i size h1 h2 (.slice none 0 0) 0 [] (World.ownsRow_nil w _ e size)
    unfold Oper.wp
    simp [execOp, hop, resolve, invoke, builtin, hs, hx, hrun, Result.andThen]
    exact hK none 0 w (World.ownsRow_nil w _ e size) (Below.refl _ _)

end Go.Proofs.Ytfogdgnlbgoakac.Kit
