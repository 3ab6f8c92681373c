/-
  OWN TEXT. A region that draws its order and whose last operation waits for all others: the others in whatever order, then the last one; over whatever program.
-/
import Derived.Test.YtmpalonhckafjaaKit
import Derived.OrdersHeld
namespace Go.Proofs.Ytmpalonhckafjaa.Kit
open Go Go.RowKit

/-- What is to hold ahead of the last operation. -/
def lastQ (P : Program) (o : Oper) (Q : Exit → Act → World → Prop) : Exit → Act → World → Prop
  | .normal, a, w => o.wp P a w (fun a' w' => Q .normal a' w') Q
  | .exit id, a, w => Q (.exit id) a w
  | .goto l, a, w => Q (.goto l) a w
  | .ret, a, w => Q .ret a w
  | .panic c, a, w => Q (.panic c) a w
  | .outgrown, a, w => Q .outgrown a w

theorem upon_last {P : Program} {o' o : Oper} {a : Act} {K : Act → World → Prop} {Q : Exit → Act → World → Prop} {r : Result Next} (h : o'.upon P a K (lastQ P o Q) r) : o'.upon P a K Q r := by
  cases r with
  | ok n w' =>
    cases n with
    | value v => exact h
    | skip => exact h
    | defer d => exact h
    | enter f args =>
      refine Calls.mono h ?_
      intro e w'' he
      cases e with
      | returned v => exact he
      | panicked c => exact he
      | outgrown => exact he
    | row r args => exact h
    | _ => exact h
  | halt k w' =>
    cases k with
    | panic v => exact h
    | _ => exact h

theorem mem_ready {md : Region.Mode} {ops : Array Oper} {l : Array Bool} {i : Nat} : i ∈ Region.ready md ops l ↔ ∃ oi, ops[i]? = some oi ∧ l.getD i true = false ∧ ∀ e ∈ oi.after, Region.binds md e = true → l.getD e.on false = true := by
  unfold Region.ready
  rw [List.mem_filter, List.mem_range]
  constructor
  · rintro ⟨hi, h⟩
    rw [Array.getElem?_eq_getElem hi] at h ⊢
    simp only [Bool.and_eq_true, Bool.not_eq_true', Option.map_some, Option.getD_some] at h
    refine ⟨_, rfl, h.1, fun e he hb => ?_⟩
    have := (Array.all_eq_true'.1 h.2) e he
    simpa [hb] using this
  · rintro ⟨oi, h1, h2, h3⟩
    have hi := (Array.getElem?_eq_some_iff.1 h1).1
    refine ⟨hi, ?_⟩
    rw [h1, h2]
    simp only [Bool.not_false, Bool.true_and, Option.map_some, Option.getD_some]
    refine Array.all_eq_true'.2 fun e he => ?_
    cases hb : Region.binds md e with
    | false => rfl
    | true => simpa [hb] using h3 e he hb

/-- Every operation but the last one waits for earlier ones alone, the last one for all; no guards. -/
def peelB (md : Region.Mode) (L : List Oper) (n : Nat) : Bool :=
  (L.length == n + 1) && ((List.range n).all fun i => ((L[i]?).map fun o => o.guard.isNone && o.after.all fun e => !Region.binds md e || decide (e.on < i)).getD false) &&
    (((L[n]?).map fun o => o.guard.isNone && (o.after.all fun e => !Region.binds md e || decide (e.on < n)) && (List.range n).all fun i => (o.after.any fun e => Region.binds md e && e.on == i) || ((List.range n).any fun j => decide (i < j) && ((L[j]?).map fun oj => oj.after.any fun e => Region.binds md e && e.on == i).getD false)).getD false)

section
variable {P : Program} {md : Region.Mode} {L : List Oper} {n : Nat} {o : Oper} {Q : Exit → Act → World → Prop}
theorem peel_spec (h : peelB md L n = true) : L.length = n + 1 ∧ (∀ i oi, i < n → L[i]? = some oi → oi.guard = none ∧ ∀ e ∈ oi.after, Region.binds md e = true → e.on < i) ∧ (∀ o, L[n]? = some o → o.guard = none ∧ (∀ e ∈ o.after, Region.binds md e = true → e.on < n) ∧ ∀ i, i < n → (∃ e ∈ o.after, Region.binds md e = true ∧ e.on = i) ∨ ∃ j oj, i < j ∧ j < n ∧ L[j]? = some oj ∧ ∃ e ∈ oj.after, Region.binds md e = true ∧ e.on = i) := by
  unfold peelB at h
  simp only [Bool.and_eq_true, beq_iff_eq] at h
  obtain ⟨⟨h1, h2⟩, h3⟩ := h
  refine ⟨h1, fun i oi hi ho => ?_, fun o ho => ?_⟩
  · have := List.all_eq_true.1 h2 i (List.mem_range.2 hi)
    rw [ho] at this
    simp only [Option.map_some, Option.getD_some, Bool.and_eq_true, Option.isNone_iff_eq_none] at this
    exact ⟨this.1, fun e he hb => by have h := Array.all_eq_true'.1 this.2 e he; simpa [hb] using h⟩
  · rw [ho] at h3
    simp only [Option.map_some, Option.getD_some, Bool.and_eq_true, Option.isNone_iff_eq_none] at h3
    refine ⟨h3.1.1, fun e he hb => by have h := Array.all_eq_true'.1 h3.1.2 e he; simpa [hb] using h, fun i hi => ?_⟩
    have := List.all_eq_true.1 h3.2 i (List.mem_range.2 hi)
    rcases Bool.or_eq_true _ _ ▸ this with this | this
    · obtain ⟨e, he, hb⟩ := Array.any_eq_true'.1 this
      simp only [Bool.and_eq_true, beq_iff_eq] at hb
      exact .inl ⟨e, he, hb.1, hb.2⟩
    · obtain ⟨j, hj, hb⟩ := List.any_eq_true.1 this
      simp only [Bool.and_eq_true, decide_eq_true_eq] at hb
      cases hq : L[j]? with
      | none => rw [hq] at hb; exact absurd hb.2 (by simp)
      | some oj =>
        rw [hq] at hb
        obtain ⟨e, he, hc⟩ := Array.any_eq_true'.1 hb.2
        simp only [Bool.and_eq_true, beq_iff_eq] at hc
        exact .inr ⟨j, oj, hb.1, List.mem_range.1 hj, hq, e, he, hc.1, hc.2⟩

theorem getD_push_lt {l : Array Bool} {b : Bool} {i : Nat} (h : i < l.size) (d : Bool) : (l.push b).getD i d = l.getD i d := by
  simp [Array.getD_eq_getD_getElem?, Array.getElem?_push, Nat.ne_of_lt h]
theorem getD_push_eq {l : Array Bool} {b : Bool} (d : Bool) : (l.push b).getD l.size d = b := by
  simp [Array.getD_eq_getD_getElem?]

theorem ready_lt (hp : peelB md L n = true) {l : Array Bool} (hl : l.size = n) {b : Bool} {i : Nat} (hi : i < n) : i ∈ Region.ready md L.toArray (l.push b) ↔ i ∈ Region.ready md (L.take n).toArray l := by
  obtain ⟨h1, h2, _⟩ := peel_spec hp
  rw [mem_ready, mem_ready]
  have e1 : (L.take n).toArray[i]? = L.toArray[i]? := by simp [hi]
  rw [e1, getD_push_lt (by omega)]
  constructor
  · rintro ⟨oi, g1, g2, g3⟩
    refine ⟨oi, g1, g2, fun e he hb => ?_⟩
    have := g3 e he hb
    rwa [getD_push_lt (by have := (h2 i oi hi (by simpa using g1)).2 e he hb; omega)] at this
  · rintro ⟨oi, g1, g2, g3⟩
    refine ⟨oi, g1, g2, fun e he hb => ?_⟩
    rw [getD_push_lt (by have := (h2 i oi hi (by simpa using g1)).2 e he hb; omega)]
    exact g3 e he hb

theorem all_of_empty (hp : peelB md L n = true) {l : Array Bool} (hl : l.size = n) (hr : Region.ready md (L.take n).toArray l = []) : ∀ i, i < n → l.getD i false = true := by
  obtain ⟨h1, h2, _⟩ := peel_spec hp
  intro i
  induction i using Nat.strongRecOn with
  | _ i ih =>
    intro hi
    cases hg : l.getD i false with
    | true => rfl
    | false =>
      exfalso
      have hlt : i < L.length := by omega
      have hm : i ∈ Region.ready md (L.take n).toArray l := by
        rw [mem_ready]
        refine ⟨L[i], by simp [hi], ?_, fun e he hb => ?_⟩
        · simp only [Array.getD_eq_getD_getElem?, Array.getElem?_eq_getElem (show i < l.size by omega), Option.getD_some] at hg ⊢
          exact hg
        · have := (h2 i L[i] hi (by simp)).2 e he hb
          exact ih e.on this (by omega)
      rw [hr] at hm
      cases hm

theorem n_ready (hp : peelB md L n = true) {l : Array Bool} (hl : l.size = n) (ho : L[n]? = some o) (hr : Region.ready md (L.take n).toArray l = []) : n ∈ Region.ready md L.toArray (l.push false) := by
  have hall := all_of_empty hp hl hr
  obtain ⟨h1, h2, h3⟩ := peel_spec hp
  rw [mem_ready]
  refine ⟨o, by simpa using ho, by rw [← hl]; exact getD_push_eq _, fun e he hb => ?_⟩
  have := (h3 o ho).2.1 e he hb
  rw [getD_push_lt (by omega)]
  exact hall e.on this

/-- What is listed has what it waits for listed. -/
def Closed (md : Region.Mode) (L : List Oper) (n : Nat) (l : Array Bool) : Prop :=
  ∀ j oj, j < n → L[j]? = some oj → l.getD j false = true → ∀ e ∈ oj.after, Region.binds md e = true → l.getD e.on false = true

theorem getD_set {l : Array Bool} {i j : Nat} (h : l.getD j false = true) : (l.setIfInBounds i true).getD j false = true := by
  simp only [Array.getD_eq_getD_getElem?, Array.getElem?_setIfInBounds] at h ⊢
  by_cases e : i = j
  · subst e
    by_cases g : i < l.size
    · simp [g]
    · rw [Array.getElem?_eq_none (by omega)] at h; cases h
  · simpa [e] using h
theorem Closed.set {l : Array Bool} (h : Closed md L n l) {i : Nat} (hi : i ∈ Region.ready md (L.take n).toArray l) : Closed md L n (l.setIfInBounds i true) := by
  intro j oj hj ho hg e he hb
  by_cases q : i = j
  · subst q
    obtain ⟨oi, k1, _, k3⟩ := mem_ready.1 hi
    have e1 : L[i]? = some oi := by simpa [hj] using k1
    rw [e1] at ho
    cases ho
    exact getD_set (k3 e he hb)
  · have hg' : l.getD j false = true := by
      simp only [Array.getD_eq_getD_getElem?, Array.getElem?_setIfInBounds] at hg ⊢
      simpa [q] using hg
    exact getD_set (h j oj hj ho hg' e he hb)

theorem n_only (hp : peelB md L n = true) {l : Array Bool} (hl : l.size = n) (hc : Closed md L n l) (h : n ∈ Region.ready md L.toArray (l.push false)) : Region.ready md (L.take n).toArray l = [] := by
  obtain ⟨h1, h2, h3⟩ := peel_spec hp
  obtain ⟨o, ho, _, g⟩ := mem_ready.1 h
  have hall : ∀ d i, i < n → n - i = d → l.getD i false = true := by
    intro d
    induction d using Nat.strongRecOn with
    | _ d ih =>
      intro i hi hd
      rcases (h3 o (by simpa using ho)).2.2 i hi with ⟨e, he, hb, rfl⟩ | ⟨j, oj, hij, hj, hoj, e, he, hb, rfl⟩
      · have := g e he hb
        rwa [getD_push_lt (by omega)] at this
      · exact hc j oj hj hoj (ih (n - j) (by omega) j hj rfl) e he hb
  rw [List.eq_nil_iff_forall_not_mem]
  intro i hi
  obtain ⟨oi, k1, k2, _⟩ := mem_ready.1 hi
  have hin : i < n := by have := (Array.getElem?_eq_some_iff.1 k1).1; simp at this; omega
  have := hall _ i hin rfl
  simp only [Array.getD_eq_getD_getElem?, Array.getElem?_eq_getElem (show i < l.size by omega), Option.getD_some] at this k2
  rw [k2] at this
  cases this

theorem done_ready (hp : peelB md L n = true) {l : Array Bool} (hl : l.size = n) (hr : Region.ready md (L.take n).toArray l = []) : Region.ready md L.toArray (l.push true) = [] := by
  obtain ⟨h1, h2, h3⟩ := peel_spec hp
  rw [List.eq_nil_iff_forall_not_mem]
  intro i hi
  obtain ⟨oi, k1, k2, _⟩ := mem_ready.1 hi
  have hin : i < n + 1 := by have := (Array.getElem?_eq_some_iff.1 k1).1; simp at this; omega
  by_cases e : i = n
  · rw [e, ← hl, getD_push_eq] at k2
    cases k2
  · have := (ready_lt hp hl (show i < n by omega)).1 hi
    rw [hr] at this
    cases this

theorem wpOp_last (hp : peelB md L n = true) {i : Nat} (hi : i < n) {K : Act → World → Prop} {a : Act} {w : World} (h : wpOp P (L.take n).toArray (lastQ P o Q) i K a w) : wpOp P L.toArray Q i K a w := by
  obtain ⟨h1, h2, _⟩ := peel_spec hp
  have e1 : (L.take n).toArray[i]? = L.toArray[i]? := by simp [hi]
  have hlt : i < L.length := by omega
  have ho : L.toArray[i]? = some L[i] := by simp
  unfold wpOp at h ⊢
  rw [e1, ho] at h
  rw [ho]
  have hg := (h2 i L[i] hi (by simp)).1
  have hw : ∀ y, Region.wanted L[i] y = true := fun y => by simp [Region.wanted, hg]
  simp only [hw, if_true] at h ⊢
  rcases h with h | ⟨h, g⟩
  · exact .inl (upon_last h)
  · exact .inr ⟨h, g⟩

theorem wpAny_peel (hp : peelB md L n = true) (ho : L[n]? = some o) : ∀ (fuel : Nat) (l : Array Bool) (a : Act) (w : World), l.size = n → Closed md L n l → wpAny P md (L.take n).toArray (lastQ P o Q) fuel l a w → wpAny P md L.toArray Q (fuel + 1) (l.push false) a w := by
  have hg := (((peel_spec hp).2.2) o ho).1
  have hw : ∀ y, Region.wanted o y = true := fun y => by simp [Region.wanted, hg]
  have hnm : ∀ (l : Array Bool), l.size = n → Region.ready md L.toArray (l.push false) ≠ [] := by
    intro l hl he
    cases hr : Region.ready md (L.take n).toArray l with
    | nil => have := n_ready hp hl ho hr; rw [he] at this; cases this
    | cons i r =>
      have hm : i ∈ Region.ready md (L.take n).toArray l := by rw [hr]; exact List.mem_cons_self
      have hin : i < n := by
        obtain ⟨_, k1, _⟩ := mem_ready.1 hm
        have := (Array.getElem?_eq_some_iff.1 k1).1
        simp at this
        omega
      have := (ready_lt hp hl (b := false) hin).2 hm
      rw [he] at this
      cases this
  have hlast : ∀ (f : Nat) (l : Array Bool) (a : Act) (w : World), l.size = n → Region.ready md (L.take n).toArray l = [] → lastQ P o Q .normal a w → wpOp P L.toArray Q n (wpAny P md L.toArray Q f ((l.push false).setIfInBounds n true)) a w := by
    intro f l a w hl hr hq
    have hs : (l.push false).setIfInBounds n true = l.push true := by
      subst hl
      apply Array.ext_getElem?
      intro j
      simp only [Array.getElem?_setIfInBounds, Array.getElem?_push]
      by_cases e : l.size = j
      · subst e; simp
      · simp [e, Ne.symm e]
    rw [hs]
    unfold wpOp
    have ho' : L.toArray[n]? = some o := by simpa using ho
    rw [ho']
    simp only [hw, if_true]
    refine .inl (Oper.wp_mono (fun a' w' h => ?_) hq)
    have hd := done_ready hp hl hr
    cases f with
    | zero => exact ⟨hd, h⟩
    | succ f => exact ⟨fun _ => h, by rw [hd]; simp⟩
  intro fuel
  induction fuel with
  | zero =>
    rintro l a w hl _ ⟨hr, hq⟩
    refine ⟨fun h => absurd h (hnm l hl), fun i hi => ?_⟩
    have hin : i = n := by
      obtain ⟨_, k1, _⟩ := mem_ready.1 hi
      have h1 := (peel_spec hp).1
      have := (Array.getElem?_eq_some_iff.1 k1).1
      simp at this
      by_cases e : i = n
      · exact e
      · have := (ready_lt hp hl (b := false) (show i < n by omega)).1 hi
        rw [hr] at this
        cases this
    subst hin
    exact hlast 0 l a w hl hr hq
  | succ f ih =>
    rintro l a w hl hc ⟨hq, hs⟩
    refine ⟨fun h => absurd h (hnm l hl), fun i hi => ?_⟩
    by_cases e : i = n
    · subst e
      have hr := n_only hp hl hc hi
      exact hlast (f + 1) l a w hl hr (hq hr)
    · have hin : i < n := by
        obtain ⟨_, k1, _⟩ := mem_ready.1 hi
        have h1 := (peel_spec hp).1
        have := (Array.getElem?_eq_some_iff.1 k1).1
        simp at this
        omega
      have hm := (ready_lt hp hl (b := false) hin).1 hi
      refine wpOp_last hp hin (wpOp_mono (fun a' w' h => ?_) (hs i hm))
      have := ih (l.setIfInBounds i true) a' w' (by simpa using hl) (hc.set hm) h
      have e2 : (l.setIfInBounds i true).push false = (l.push false).setIfInBounds i true := by
        apply Array.ext_getElem?
        intro j
        simp only [Array.getElem?_setIfInBounds, Array.getElem?_push, Array.size_setIfInBounds]
        by_cases e1 : i = j
        · subst e1
          have g1 : ¬ (i = n) := by omega
          have g2 : i < n + 1 := by omega
          simp [hl, hin, g1, g2]
        · simp [e1]
      rw [e2] at this
      exact this

/-- The others by one condition on the world, then the last. -/
theorem wp_region_peel {id : Nat} {a : Act} {w : World} {S : World → Prop} (n : Nat) (o : Oper) (hm : P.follows .mixedOrders = true) (hp : peelB .any L n = true) (ho : L[n]? = some o)
    (h : wpAnyH P .any (L.take n).toArray (lastQ P o Q) S n (Array.replicate n false) a { w with drawn := w.drawn + 1 }) : (Code.region id L.toArray true).wp P Q a w := by
  refine wp_region_any hm ?_
  have h1 := (peel_spec hp).1
  have := wpAny_peel hp ho n (Array.replicate n false) a { w with drawn := w.drawn + 1 } (by simp) (fun j oj hj _ hg => by simp [Array.getD_eq_getD_getElem?, hj] at hg) (wpAny_of_held _ _ _ _ h)
  have e : (Array.replicate n false).push false = Array.replicate L.toArray.size false := by
    rw [List.size_toArray, h1, Array.replicate_succ]
  rw [e] at this
  rw [List.size_toArray, h1]
  rw [List.size_toArray, h1] at this
  exact this

theorem takeH {S : World → Prop} {l : List Oper} (i : Nat) {oi : Oper} {v : Value} {fuel : Nat} {listed : Array Bool} {a : Act} {w : World} (hi : l[i]? = some oi)
    (hs : Region.noSelect l.toArray = true) (hf : Region.free md l.toArray listed i = true) (hr : (Region.ready md l.toArray listed).contains i = true)
    (hQ : ∀ c a w, Q (.panic c) (a.put oi.dst v) w → Q (.panic c) a w) (hg : oi.guard = none) (hy : ∀ w, S w → (execOp a.eval oi).run P w = .ok (.value v) w) (hS : S w)
    (h : wpAnyH P md l.toArray Q S fuel (listed.setIfInBounds i true) (a.put oi.dst v) w) : wpAnyH P md l.toArray Q S (fuel + 1) listed a w :=
  wpAnyH_take (by simpa using hi) hs hf hr hQ (Or.inl ⟨by simp [Region.wanted, hg], hy⟩) hS h

theorem oneH {S : World → Prop} {l : List Oper} (i : Nat) {oi : Oper} {fuel : Nat} {listed : Array Bool} {a : Act} {w : World} (hr : Region.ready md l.toArray listed = [i]) (hi : l[i]? = some oi) (hg : oi.guard = none)
    (h : ∀ K : Act → World → Prop, (∀ a' w', S w' → wpAnyH P md l.toArray Q S fuel (listed.setIfInBounds i true) a' w' → K a' w') → oi.wp P a w K Q) : wpAnyH P md l.toArray Q S (fuel + 1) listed a w := by
  refine wpAnyH_all hr (by simp) ?_
  intro j hj
  obtain rfl : j = i := by simpa using hj
  unfold wpOp
  have hi' : l.toArray[j]? = some oi := by simpa using hi
  rw [hi']
  have hw : ∀ y, Region.wanted oi y = true := fun y => by simp [Region.wanted, hg]
  simp only [hw, if_true]
  exact .inl (h _ fun a' w' h1 h2 => ⟨h1, h2⟩)

end
end Go.Proofs.Ytmpalonhckafjaa.Kit
