/-
  OWN TEXT. Several operations of a region that draws its order each make one block, in whatever order; over whatever program.
-/
import Derived.Test.YtmpalonhckafjaaPeel
namespace Go.Proofs.Ytmpalonhckafjaa.Kit
open Go Go.RowKit

/-- The values, one of them changed. -/
def updF (f : Nat → Value) (j : Nat) (u : Value) : Nat → Value := fun k => if k = j then u else f k
theorem updF_same (f : Nat → Value) (j : Nat) (u : Value) : updF f j u j = u := by simp [updF]
theorem updF_other (f : Nat → Value) {j k : Nat} (u : Value) (h : k ≠ j) : updF f j u k = f k := by simp [updF, h]

theorem countP_upd {m j : Nat} {p q : Nat → Bool} (hj : j < m) (hp : p j = true) (hq : q j = false) (h : ∀ k, k ≠ j → q k = p k) : (List.range m).countP q + 1 = (List.range m).countP p := by
  induction m with
  | zero => omega
  | succ m ih =>
    rw [List.range_succ, List.countP_append, List.countP_append]
    by_cases e : j = m
    · subst e
      have : (List.range j).countP q = (List.range j).countP p := List.countP_congr fun k hk => by rw [h k (by have := List.mem_range.1 hk; omega)]
      simp [this, hp, hq]
    · have := ih (by omega)
      rw [show (List.countP q [m]) = List.countP p [m] by simp [List.countP_cons, h m (fun g => e g.symm)]]
      omega

/-- What is ready is one of the operations that have not come up; and there is one. -/
def rdyOk (md : Region.Mode) (l : List Oper) (listed : Array Bool) (ps : List (Nat × Bool)) : Bool :=
  ps.all (·.2) || (!(Region.ready md l.toArray listed).isEmpty && (Region.ready md l.toArray listed).all fun i => ps.any fun p => p.1 == i && !p.2)

theorem manyB {P : Program} {md : Region.Mode} {Q : Exit → Act → World → Prop} {S : World → Prop} {l : List Oper} (m mb : Nat) (hmb : mb ≤ m) (F : (Nat → Value) → Value → Act) (idx : Nat → Nat) (obj : Nat → Obj) (val : Nat → Nat → Value) (vb : (Nat → Nat) → Value) (L : (Nat → Bool) → Bool → Array Bool) {W0 : World} {fuel : Nat} {u0 : Value}
    (hop : ∀ j, j < m → ∃ o, l[idx j]? = some o ∧ o.guard = none ∧ ∀ (f : Nat → Value) (u : Value) (W : World) (K : Act → World → Prop), Below W0.heap.size W0 W → K (F (updF f j (val j W.heap.size)) u) (W.alloc (obj j)) → o.wp P (F f u) W K Q)
    (hset : ∀ j, j < m → ∀ b c, (L b c).setIfInBounds (idx j) true = L (fun k => if k = j then true else b k) c)
    (hL : ∀ b b' c, (∀ j, j < m → b j = b' j) → L b c = L b' c)
    (hF : ∀ f f' u, (∀ j, j < m → f j = f' j) → F f u = F f' u)
    (hvb : ∀ n n', (∀ j, j < mb → n j = n' j) → vb n = vb n')
    (hrdy' : ∀ b c, ((!c && (List.range mb).all b) || rdyOk md l (L b c) ((List.range m).map fun j => (idx j, b j))) = true)
    (hbuild : ∀ (b : Nat → Bool), (∀ j, j < mb → b j = true) → ∀ (f : Nat → Value) (n : Nat → Nat) (W : World) (fuel' : Nat), (∀ j, j < mb → f j = val j (n j)) → Below W0.heap.size W0 W → wpAnyH P md l.toArray Q S fuel' (L b true) (F f (vb n)) W → wpAnyH P md l.toArray Q S (fuel' + 1) (L b false) (F f u0) W)
    (hS : ∀ W, Below W0.heap.size W0 W → S W)
    (hend : ∀ (n : Nat → Nat) (W : World), Below W0.heap.size W0 W → (∀ j, j < m → W0.heap.size ≤ n j ∧ W.heap[n j]? = some (obj j)) → (∀ j k, j < m → k < m → j ≠ k → n j ≠ n k) → wpAnyH P md l.toArray Q S fuel (L (fun _ => true) true) (F (fun j => val j (n j)) (vb n)) W)
    (f0 : Nat → Value) : wpAnyH P md l.toArray Q S (fuel + m + 1) (L (fun _ => false) false) (F f0 u0) W0 := by
  have hrdy : ∀ (b : Nat → Bool) c, (c = true ∨ ∃ j, j < mb ∧ b j = false) → (∃ j, j < m ∧ b j = false) → Region.ready md l.toArray (L b c) ≠ [] ∧ ∀ i ∈ Region.ready md l.toArray (L b c), ∃ j, j < m ∧ i = idx j ∧ b j = false := by
    rintro b c hc ⟨j, hj, hjf⟩
    have h0 := hrdy' b c
    have h : rdyOk md l (L b c) ((List.range m).map fun j => (idx j, b j)) = true := by
      rcases Bool.or_eq_true _ _ ▸ h0 with h | h
      · exfalso
        rw [Bool.and_eq_true] at h
        rcases hc with rfl | ⟨k, hk, hkf⟩
        · simp at h
        · have := List.all_eq_true.1 h.2 k (List.mem_range.2 hk)
          rw [hkf] at this
          cases this
      · exact h
    unfold rdyOk at h
    rw [Bool.or_eq_true] at h
    rcases h with h | h
    · have := List.all_eq_true.1 h (idx j, b j) (List.mem_map.2 ⟨j, List.mem_range.2 hj, rfl⟩)
      rw [hjf] at this
      cases this
    · rw [Bool.and_eq_true] at h
      refine ⟨fun e => (by rw [e] at h; exact absurd h.1 (by simp)), fun i hi => ?_⟩
      have := List.all_eq_true.1 h.2 i hi
      obtain ⟨p, hp, hq⟩ := List.any_eq_true.1 this
      obtain ⟨k, hk, rfl⟩ := List.mem_map.1 hp
      simp only [Bool.and_eq_true, beq_iff_eq, Bool.not_eq_true'] at hq
      exact ⟨k, List.mem_range.1 hk, hq.1.symm, hq.2⟩
  suffices H : ∀ (c : Nat) (x : Nat → Option Nat) (bt : Bool) (u : Value) (f : Nat → Value) (W : World), (List.range m).countP (fun j => (x j).isNone) = c →
      (∀ j n, j < m → x j = some n → f j = val j n ∧ W0.heap.size ≤ n ∧ W.heap[n]? = some (obj j)) → (∀ j k n, j < m → k < m → j ≠ k → x j = some n → x k ≠ some n) → Below W0.heap.size W0 W →
      (bt = false → u = u0) → (bt = true → (∀ j, j < mb → (x j).isSome = true) ∧ u = vb fun j => (x j).getD 0) →
      wpAnyH P md l.toArray Q S (fuel + c + (if bt = true then 0 else 1)) (L (fun j => (x j).isSome) bt) (F f u) W by
    have h := H m (fun _ => none) false u0 f0 W0 (by simp) (fun j n _ h => by cases h) (fun j k n _ _ _ h => by cases h) (Below.refl _ _) (fun _ => rfl) (fun h => by cases h)
    simpa using h
  -- behind the build
  have done : ∀ (c : Nat) (x : Nat → Option Nat) (f : Nat → Value) (W : World), (List.range m).countP (fun j => (x j).isNone) = c →
      (∀ j n, j < m → x j = some n → f j = val j n ∧ W0.heap.size ≤ n ∧ W.heap[n]? = some (obj j)) → (∀ j k n, j < m → k < m → j ≠ k → x j = some n → x k ≠ some n) → Below W0.heap.size W0 W → c = 0 →
      wpAnyH P md l.toArray Q S fuel (L (fun j => (x j).isSome) true) (F f (vb fun j => (x j).getD 0)) W := by
    intro c x f W hc hx hd hb h0
    subst h0
    have hall : ∀ j, j < m → ∃ n, x j = some n := by
      intro j hj
      cases h : x j with
      | some n => exact ⟨n, rfl⟩
      | none =>
        have := (List.countP_eq_zero.1 hc) j (List.mem_range.2 hj)
        simp [h] at this
    have e1 : L (fun j => (x j).isSome) true = L (fun _ => true) true := hL _ _ _ fun j hj => by obtain ⟨n, hn⟩ := hall j hj; simp [hn]
    have e2 : F f (vb fun j => (x j).getD 0) = F (fun j => val j ((x j).getD 0)) (vb fun j => (x j).getD 0) := hF _ _ _ fun j hj => by obtain ⟨n, hn⟩ := hall j hj; rw [(hx j n hj hn).1, hn]; rfl
    rw [e1, e2]
    refine hend (fun j => (x j).getD 0) W hb (fun j hj => ?_) (fun j k hj hk hne => ?_)
    · obtain ⟨n, hn⟩ := hall j hj
      simp only [hn, Option.getD_some]
      exact (hx j n hj hn).2
    · obtain ⟨n, hn⟩ := hall j hj
      obtain ⟨n', hn'⟩ := hall k hk
      simp only [hn, hn', Option.getD_some]
      intro e
      exact hd j k n hj hk hne hn (by rw [hn', e])
  intro c
  induction c with
  | zero =>
    intro x bt u f W hc hx hd hb hu hu'
    have hall : ∀ j, j < m → ∃ n, x j = some n := by
      intro j hj
      cases h : x j with
      | some n => exact ⟨n, rfl⟩
      | none =>
        have := (List.countP_eq_zero.1 hc) j (List.mem_range.2 hj)
        simp [h] at this
    have hd0 := done 0 x f W hc hx hd hb rfl
    cases bt with
    | true =>
      rw [(hu' rfl).2]
      simpa using hd0
    | false =>
      rw [hu rfl]
      have := hbuild (fun j => (x j).isSome) (fun j hj => by obtain ⟨n, hn⟩ := hall j (by omega); simp [hn]) f (fun j => (x j).getD 0) W fuel (fun j hj => by obtain ⟨n, hn⟩ := hall j (by omega); rw [(hx j n (by omega) hn).1, hn]; rfl) hb hd0
      simpa using this
  | succ c ih =>
    have step : ∀ (x : Nat → Option Nat) (bt : Bool) (u : Value) (f : Nat → Value) (W : World), (List.range m).countP (fun j => (x j).isNone) = c + 1 →
      (∀ j n, j < m → x j = some n → f j = val j n ∧ W0.heap.size ≤ n ∧ W.heap[n]? = some (obj j)) → (∀ j k n, j < m → k < m → j ≠ k → x j = some n → x k ≠ some n) → Below W0.heap.size W0 W →
      (bt = false → u = u0) → (bt = true → (∀ j, j < mb → (x j).isSome = true) ∧ u = vb fun j => (x j).getD 0) → (bt = true ∨ ∃ j, j < mb ∧ (x j).isSome = false) →
      wpAnyH P md l.toArray Q S (fuel + (c + 1) + (if bt = true then 0 else 1)) (L (fun j => (x j).isSome) bt) (F f u) W := by
      intro x bt u f W hc hx hd hb hu hu' hbt
      have hex : ∃ j, j < m ∧ (x j).isSome = false := by
        apply Classical.byContradiction
        intro hno
        have : (List.range m).countP (fun j => (x j).isNone) = 0 := List.countP_eq_zero.2 fun j hj => by
          intro h
          exact hno ⟨j, List.mem_range.1 hj, by simpa using h⟩
        omega
      obtain ⟨r1, r2⟩ := hrdy (fun j => (x j).isSome) bt hbt hex
      have ef : fuel + (c + 1) + (if bt = true then 0 else 1) = (fuel + c + (if bt = true then 0 else 1)) + 1 := by omega
      rw [ef]
      refine ⟨fun h => absurd h r1, fun i hi => ?_⟩
      obtain ⟨j, hj, rfl, hn⟩ := r2 i hi
      obtain ⟨o, o1, o2, hwp⟩ := hop j hj
      have hnone : x j = none := by
        cases h : x j with
        | none => rfl
        | some n => rw [h] at hn; cases hn
      unfold wpOp
      have o1' : l.toArray[idx j]? = some o := by simpa using o1
      rw [o1']
      have hw : ∀ y, Region.wanted o y = true := fun y => by simp [Region.wanted, o2]
      simp only [hw, if_true]
      refine .inl (hwp f u W _ hb ?_)
      have hb' : Below W0.heap.size W0 (W.alloc (obj j)) := hb.alloc hb.size _
      have hg : ∀ n, n < W.heap.size → (W.alloc (obj j)).heap[n]? = W.heap[n]? := fun n hn => by
        show (W.heap.push (obj j))[n]? = _
        rw [Array.getElem?_push, if_neg (by omega)]
      have hself : (W.alloc (obj j)).heap[W.heap.size]? = some (obj j) := by
        show (W.heap.push (obj j))[W.heap.size]? = _
        rw [Array.getElem?_push, if_pos rfl]
      refine ⟨hS _ hb', ?_⟩
      rw [hset j hj]
      have key := ih (fun k => if k = j then some W.heap.size else x k) bt u (updF f j (val j W.heap.size)) (W.alloc (obj j)) (by
          have := countP_upd (m := m) (p := fun k => (x k).isNone) (q := fun k => (if k = j then some W.heap.size else x k).isNone) hj (by simp [hnone]) (by simp) (fun k hk => by simp [hk])
          omega) (fun k n hk h => by
          by_cases e : k = j
          · subst e
            simp only [if_true, Option.some.injEq] at h
            subst h
            exact ⟨updF_same _ _ _, hb.size, hself⟩
          · simp only [e, if_false] at h
            obtain ⟨h1, h2, h3⟩ := hx k n hk h
            have hlt := (Array.getElem?_eq_some_iff.1 h3).1
            exact ⟨by rw [updF_other _ _ e, h1], h2, (hg n hlt).trans h3⟩) (fun k k' n hk hk' hne h h' => by
          by_cases e : k = j
          · subst e
            have e' : ¬ k' = k := fun g => hne g.symm
            simp only [if_true, Option.some.injEq] at h
            simp only [e', if_false] at h'
            have := (Array.getElem?_eq_some_iff.1 (hx k' n hk' h').2.2).1
            omega
          · simp only [e, if_false] at h
            by_cases e' : k' = j
            · subst e'
              simp only [if_true, Option.some.injEq] at h'
              have := (Array.getElem?_eq_some_iff.1 (hx k n hk h).2.2).1
              omega
            · simp only [e', if_false] at h'
              exact hd k k' n hk hk' hne h h') hb' hu (fun h => by
          obtain ⟨a1, a2⟩ := hu' h
          have hjb : ¬ j < mb := fun hjb => by have := a1 j hjb; rw [hnone] at this; cases this
          refine ⟨fun k hk => ?_, ?_⟩
          · simp only [show ¬ k = j by omega, if_false]
            exact a1 k hk
          · rw [a2]
            exact hvb _ _ fun k hk => by simp only [show ¬ k = j by omega, if_false])
      have e1 : L (fun k => if k = j then true else (x k).isSome) bt = L (fun k => (if k = j then some W.heap.size else x k).isSome) bt := hL _ _ _ fun k _ => by
        by_cases e : k = j <;> simp [e]
      rw [e1]
      exact key
    intro x bt u f W hc hx hd hb hu hu'
    by_cases hq : bt = true ∨ ∃ j, j < mb ∧ (x j).isSome = false
    · exact step x bt u f W hc hx hd hb hu hu' hq
    · have hbt : bt = false := by cases bt with
        | false => rfl
        | true => exact absurd (.inl rfl) hq
      have hallb : ∀ j, j < mb → (x j).isSome = true := fun j hj => by
        cases h : (x j).isSome with
        | true => rfl
        | false => exact absurd (.inr ⟨j, hj, h⟩) hq
      subst hbt
      rw [hu rfl]
      have := step x true (vb fun j => (x j).getD 0) f W hc hx hd hb (fun h => by cases h) (fun _ => ⟨hallb, rfl⟩) (.inl rfl)
      have h2 := hbuild (fun j => (x j).isSome) hallb f (fun j => (x j).getD 0) W _ (fun j hj => by
        have := hallb j hj
        cases h : x j with
        | none => rw [h] at this; cases this
        | some n => rw [(hx j n (by omega) h).1]; rfl) hb this
      simpa using h2

end Go.Proofs.Ytmpalonhckafjaa.Kit
