/-
  OWN TEXTS, bundled: Peel, Sxh, RKit, RPure, MKit.
-/
import Derived.Test.YtbjlbmofdnkmiaaPagesNewPart1
import Derived.OrdersHeld
import Derived.Test.YtbjlbmofdnkmiaaPagesNewPart2
import Derived.OpenShut

/-
  OWN TEXT. A region that draws its order and whose last operation waits for all others: the others in whatever order, then the last one; over whatever program.
-/
namespace Go.Proofs.Ytbjlbmofdnkmiaa.Kit
open Go Go.RowKit

/-- What is to hold ahead of the last operation. -/
def lastQ (P : Program) (o : Oper) (Q : Exit → Act → World → Prop) : Exit → Act → World → Prop
  | .normal, a, w => o.wp P a w (fun a' w' => Q .normal a' w') Q
  | .exit id, a, w => Q (.exit id) a w
  | .goto l, a, w => Q (.goto l) a w
  | .ret, a, w => Q .ret a w
  | .panic c, a, w => Q (.panic c) a w
  | .outgrown, a, w => Q .outgrown a w

theorem upon_last {P : Program} {o' o : Oper} {a : Act} {K : Act → World → Prop} {Q : Exit → Act → World → Prop} {r : Result Next} (h : o'.upon P a K (lastQ P o Q) r) : o'.upon P a K Q r := by
  cases r with
  | ok n w' =>
    cases n with
    | value v => exact h
    | skip => exact h
    | defer d => exact h
    | enter f args =>
      refine Calls.mono h ?_
      intro e w'' he
      cases e with
      | returned v => exact he
      | panicked c => exact he
      | outgrown => exact he
    | row r args => exact h
    | _ => exact h
  | halt k w' =>
    cases k with
    | panic v => exact h
    | _ => exact h

theorem mem_ready {md : Region.Mode} {ops : Array Oper} {l : Array Bool} {i : Nat} : i ∈ Region.ready md ops l ↔ ∃ oi, ops[i]? = some oi ∧ l.getD i true = false ∧ ∀ e ∈ oi.after, Region.binds md e = true → l.getD e.on false = true := by
  unfold Region.ready
  rw [List.mem_filter, List.mem_range]
  constructor
  · rintro ⟨hi, h⟩
    rw [Array.getElem?_eq_getElem hi] at h ⊢
    simp only [Bool.and_eq_true, Bool.not_eq_true', Option.map_some, Option.getD_some] at h
    refine ⟨_, rfl, h.1, fun e he hb => ?_⟩
    have := (Array.all_eq_true'.1 h.2) e he
    simpa [hb] using this
  · rintro ⟨oi, h1, h2, h3⟩
    have hi := (Array.getElem?_eq_some_iff.1 h1).1
    refine ⟨hi, ?_⟩
    rw [h1, h2]
    simp only [Bool.not_false, Bool.true_and, Option.map_some, Option.getD_some]
    refine Array.all_eq_true'.2 fun e he => ?_
    cases hb : Region.binds md e with
    | false => rfl
    | true => simpa [hb] using h3 e he hb

/-- Every operation but the last one waits for earlier ones alone, the last one for all; no guards. -/
def peelB (md : Region.Mode) (L : List Oper) (n : Nat) : Bool :=
  (L.length == n + 1) && ((List.range n).all fun i => ((L[i]?).map fun o => o.guard.isNone && o.after.all fun e => !Region.binds md e || decide (e.on < i)).getD false) &&
    (((L[n]?).map fun o => o.guard.isNone && (o.after.all fun e => !Region.binds md e || decide (e.on < n)) && (List.range n).all fun i => (o.after.any fun e => Region.binds md e && e.on == i) || ((List.range n).any fun j => decide (i < j) && ((L[j]?).map fun oj => oj.after.any fun e => Region.binds md e && e.on == i).getD false)).getD false)

section
variable {P : Program} {md : Region.Mode} {L : List Oper} {n : Nat} {o : Oper} {Q : Exit → Act → World → Prop}
theorem peel_spec (h : peelB md L n = true) : L.length = n + 1 ∧ (∀ i oi, i < n → L[i]? = some oi → oi.guard = none ∧ ∀ e ∈ oi.after, Region.binds md e = true → e.on < i) ∧ (∀ o, L[n]? = some o → o.guard = none ∧ (∀ e ∈ o.after, Region.binds md e = true → e.on < n) ∧ ∀ i, i < n → (∃ e ∈ o.after, Region.binds md e = true ∧ e.on = i) ∨ ∃ j oj, i < j ∧ j < n ∧ L[j]? = some oj ∧ ∃ e ∈ oj.after, Region.binds md e = true ∧ e.on = i) := by
  unfold peelB at h
  simp only [Bool.and_eq_true, beq_iff_eq] at h
  obtain ⟨⟨h1, h2⟩, h3⟩ := h
  refine ⟨h1, fun i oi hi ho => ?_, fun o ho => ?_⟩
  · have := List.all_eq_true.1 h2 i (List.mem_range.2 hi)
    rw [ho] at this
    simp only [Option.map_some, Option.getD_some, Bool.and_eq_true, Option.isNone_iff_eq_none] at this
    exact ⟨this.1, fun e he hb => by have h := Array.all_eq_true'.1 this.2 e he; simpa [hb] using h⟩
  · rw [ho] at h3
    simp only [Option.map_some, Option.getD_some, Bool.and_eq_true, Option.isNone_iff_eq_none] at h3
    refine ⟨h3.1.1, fun e he hb => by have h := Array.all_eq_true'.1 h3.1.2 e he; simpa [hb] using h, fun i hi => ?_⟩
    have := List.all_eq_true.1 h3.2 i (List.mem_range.2 hi)
    rcases Bool.or_eq_true _ _ ▸ this with this | this
    · obtain ⟨e, he, hb⟩ := Array.any_eq_true'.1 this
      simp only [Bool.and_eq_true, beq_iff_eq] at hb
      exact .inl ⟨e, he, hb.1, hb.2⟩
    · obtain ⟨j, hj, hb⟩ := List.any_eq_true.1 this
      simp only [Bool.and_eq_true, decide_eq_true_eq] at hb
      cases hq : L[j]? with
      | none => rw [hq] at hb; exact absurd hb.2 (by simp)
      | some oj =>
        rw [hq] at hb
        obtain ⟨e, he, hc⟩ := Array.any_eq_true'.1 hb.2
        simp only [Bool.and_eq_true, beq_iff_eq] at hc
        exact .inr ⟨j, oj, hb.1, List.mem_range.1 hj, hq, e, he, hc.1, hc.2⟩

theorem getD_push_lt {l : Array Bool} {b : Bool} {i : Nat} (h : i < l.size) (d : Bool) : (l.push b).getD i d = l.getD i d := by
  simp [Array.getD_eq_getD_getElem?, Array.getElem?_push, Nat.ne_of_lt h]
theorem getD_push_eq {l : Array Bool} {b : Bool} (d : Bool) : (l.push b).getD l.size d = b := by
  simp [Array.getD_eq_getD_getElem?]

theorem ready_lt (hp : peelB md L n = true) {l : Array Bool} (hl : l.size = n) {b : Bool} {i : Nat} (hi : i < n) : i ∈ Region.ready md L.toArray (l.push b) ↔ i ∈ Region.ready md (L.take n).toArray l := by
  obtain ⟨h1, h2, _⟩ := peel_spec hp
  rw [mem_ready, mem_ready]
  have e1 : (L.take n).toArray[i]? = L.toArray[i]? := by simp [hi]
  rw [e1, getD_push_lt (by omega)]
  constructor
  · rintro ⟨oi, g1, g2, g3⟩
    refine ⟨oi, g1, g2, fun e he hb => ?_⟩
    have := g3 e he hb
    rwa [getD_push_lt (by have := (h2 i oi hi (by simpa using g1)).2 e he hb; omega)] at this
  · rintro ⟨oi, g1, g2, g3⟩
    refine ⟨oi, g1, g2, fun e he hb => ?_⟩
    rw [getD_push_lt (by have := (h2 i oi hi (by simpa using g1)).2 e he hb; omega)]
    exact g3 e he hb

theorem all_of_empty (hp : peelB md L n = true) {l : Array Bool} (hl : l.size = n) (hr : Region.ready md (L.take n).toArray l = []) : ∀ i, i < n → l.getD i false = true := by
  obtain ⟨h1, h2, _⟩ := peel_spec hp
  intro i
  induction i using Nat.strongRecOn with
  | _ i ih =>
    intro hi
    cases hg : l.getD i false with
    | true => rfl
    | false =>
      exfalso
      have hlt : i < L.length := by omega
      have hm : i ∈ Region.ready md (L.take n).toArray l := by
        rw [mem_ready]
        refine ⟨L[i], by simp [hi], ?_, fun e he hb => ?_⟩
        · simp only [Array.getD_eq_getD_getElem?, Array.getElem?_eq_getElem (show i < l.size by omega), Option.getD_some] at hg ⊢
          exact hg
        · have := (h2 i L[i] hi (by simp)).2 e he hb
          exact ih e.on this (by omega)
      rw [hr] at hm
      cases hm

theorem n_ready (hp : peelB md L n = true) {l : Array Bool} (hl : l.size = n) (ho : L[n]? = some o) (hr : Region.ready md (L.take n).toArray l = []) : n ∈ Region.ready md L.toArray (l.push false) := by
  have hall := all_of_empty hp hl hr
  obtain ⟨h1, h2, h3⟩ := peel_spec hp
  rw [mem_ready]
  refine ⟨o, by simpa using ho, by rw [← hl]; exact getD_push_eq _, fun e he hb => ?_⟩
  have := (h3 o ho).2.1 e he hb
  rw [getD_push_lt (by omega)]
  exact hall e.on this

/-- What is listed has what it waits for listed. -/
def Closed (md : Region.Mode) (L : List Oper) (n : Nat) (l : Array Bool) : Prop :=
  ∀ j oj, j < n → L[j]? = some oj → l.getD j false = true → ∀ e ∈ oj.after, Region.binds md e = true → l.getD e.on false = true

theorem getD_set {l : Array Bool} {i j : Nat} (h : l.getD j false = true) : (l.setIfInBounds i true).getD j false = true := by
  simp only [Array.getD_eq_getD_getElem?, Array.getElem?_setIfInBounds] at h ⊢
  by_cases e : i = j
  · subst e
    by_cases g : i < l.size
    · simp [g]
    · rw [Array.getElem?_eq_none (by omega)] at h; cases h
  · simpa [e] using h
theorem Closed.set {l : Array Bool} (h : Closed md L n l) {i : Nat} (hi : i ∈ Region.ready md (L.take n).toArray l) : Closed md L n (l.setIfInBounds i true) := by
  intro j oj hj ho hg e he hb
  by_cases q : i = j
  · subst q
    obtain ⟨oi, k1, _, k3⟩ := mem_ready.1 hi
    have e1 : L[i]? = some oi := by simpa [hj] using k1
    rw [e1] at ho
    cases ho
    exact getD_set (k3 e he hb)
  · have hg' : l.getD j false = true := by
      simp only [Array.getD_eq_getD_getElem?, Array.getElem?_setIfInBounds] at hg ⊢
      simpa [q] using hg
    exact getD_set (h j oj hj ho hg' e he hb)

theorem n_only (hp : peelB md L n = true) {l : Array Bool} (hl : l.size = n) (hc : Closed md L n l) (h : n ∈ Region.ready md L.toArray (l.push false)) : Region.ready md (L.take n).toArray l = [] := by
  obtain ⟨h1, h2, h3⟩ := peel_spec hp
  obtain ⟨o, ho, _, g⟩ := mem_ready.1 h
  have hall : ∀ d i, i < n → n - i = d → l.getD i false = true := by
    intro d
    induction d using Nat.strongRecOn with
    | _ d ih =>
      intro i hi hd
      rcases (h3 o (by simpa using ho)).2.2 i hi with ⟨e, he, hb, rfl⟩ | ⟨j, oj, hij, hj, hoj, e, he, hb, rfl⟩
      · have := g e he hb
        rwa [getD_push_lt (by omega)] at this
      · exact hc j oj hj hoj (ih (n - j) (by omega) j hj rfl) e he hb
  rw [List.eq_nil_iff_forall_not_mem]
  intro i hi
  obtain ⟨oi, k1, k2, _⟩ := mem_ready.1 hi
  have hin : i < n := by have := (Array.getElem?_eq_some_iff.1 k1).1; simp at this; omega
  have := hall _ i hin rfl
  simp only [Array.getD_eq_getD_getElem?, Array.getElem?_eq_getElem (show i < l.size by omega), Option.getD_some] at this k2
  rw [k2] at this
  cases this

theorem done_ready (hp : peelB md L n = true) {l : Array Bool} (hl : l.size = n) (hr : Region.ready md (L.take n).toArray l = []) : Region.ready md L.toArray (l.push true) = [] := by
  obtain ⟨h1, h2, h3⟩ := peel_spec hp
  rw [List.eq_nil_iff_forall_not_mem]
  intro i hi
  obtain ⟨oi, k1, k2, _⟩ := mem_ready.1 hi
  have hin : i < n + 1 := by have := (Array.getElem?_eq_some_iff.1 k1).1; simp at this; omega
  by_cases e : i = n
  · rw [e, ← hl, getD_push_eq] at k2
    cases k2
  · have := (ready_lt hp hl (show i < n by omega)).1 hi
    rw [hr] at this
    cases this

theorem wpOp_last (hp : peelB md L n = true) {i : Nat} (hi : i < n) {K : Act → World → Prop} {a : Act} {w : World} (h : wpOp P (L.take n).toArray (lastQ P o Q) i K a w) : wpOp P L.toArray Q i K a w := by
  obtain ⟨h1, h2, _⟩ := peel_spec hp
  have e1 : (L.take n).toArray[i]? = L.toArray[i]? := by simp [hi]
  have hlt : i < L.length := by omega
  have ho : L.toArray[i]? = some L[i] := by simp
  unfold wpOp at h ⊢
  rw [e1, ho] at h
  rw [ho]
  have hg := (h2 i L[i] hi (by simp)).1
  have hw : ∀ y, Region.wanted L[i] y = true := fun y => by simp [Region.wanted, hg]
  simp only [hw, if_true] at h ⊢
  rcases h with h | ⟨h, g⟩
  · exact .inl (upon_last h)
  · exact .inr ⟨h, g⟩

theorem wpAny_peel (hp : peelB md L n = true) (ho : L[n]? = some o) : ∀ (fuel : Nat) (l : Array Bool) (a : Act) (w : World), l.size = n → Closed md L n l → wpAny P md (L.take n).toArray (lastQ P o Q) fuel l a w → wpAny P md L.toArray Q (fuel + 1) (l.push false) a w := by
  have hg := (((peel_spec hp).2.2) o ho).1
  have hw : ∀ y, Region.wanted o y = true := fun y => by simp [Region.wanted, hg]
  have hnm : ∀ (l : Array Bool), l.size = n → Region.ready md L.toArray (l.push false) ≠ [] := by
    intro l hl he
    cases hr : Region.ready md (L.take n).toArray l with
    | nil => have := n_ready hp hl ho hr; rw [he] at this; cases this
    | cons i r =>
      have hm : i ∈ Region.ready md (L.take n).toArray l := by rw [hr]; exact List.mem_cons_self
      have hin : i < n := by
        obtain ⟨_, k1, _⟩ := mem_ready.1 hm
        have := (Array.getElem?_eq_some_iff.1 k1).1
        simp at this
        omega
      have := (ready_lt hp hl (b := false) hin).2 hm
      rw [he] at this
      cases this
  have hlast : ∀ (f : Nat) (l : Array Bool) (a : Act) (w : World), l.size = n → Region.ready md (L.take n).toArray l = [] → lastQ P o Q .normal a w → wpOp P L.toArray Q n (wpAny P md L.toArray Q f ((l.push false).setIfInBounds n true)) a w := by
    intro f l a w hl hr hq
    have hs : (l.push false).setIfInBounds n true = l.push true := by
      subst hl
      apply Array.ext_getElem?
      intro j
      simp only [Array.getElem?_setIfInBounds, Array.getElem?_push]
      by_cases e : l.size = j
      · subst e; simp
      · simp [e, Ne.symm e]
    rw [hs]
    unfold wpOp
    have ho' : L.toArray[n]? = some o := by simpa using ho
    rw [ho']
    simp only [hw, if_true]
    refine .inl (Oper.wp_mono (fun a' w' h => ?_) hq)
    have hd := done_ready hp hl hr
    cases f with
    | zero => exact ⟨hd, h⟩
    | succ f => exact ⟨fun _ => h, by rw [hd]; simp⟩
  intro fuel
  induction fuel with
  | zero =>
    rintro l a w hl _ ⟨hr, hq⟩
    refine ⟨fun h => absurd h (hnm l hl), fun i hi => ?_⟩
    have hin : i = n := by
      obtain ⟨_, k1, _⟩ := mem_ready.1 hi
      have h1 := (peel_spec hp).1
      have := (Array.getElem?_eq_some_iff.1 k1).1
      simp at this
      by_cases e : i = n
      · exact e
      · have := (ready_lt hp hl (b := false) (show i < n by omega)).1 hi
        rw [hr] at this
        cases this
    subst hin
    exact hlast 0 l a w hl hr hq
  | succ f ih =>
    rintro l a w hl hc ⟨hq, hs⟩
    refine ⟨fun h => absurd h (hnm l hl), fun i hi => ?_⟩
    by_cases e : i = n
    · subst e
      have hr := n_only hp hl hc hi
      exact hlast (f + 1) l a w hl hr (hq hr)
    · have hin : i < n := by
        obtain ⟨_, k1, _⟩ := mem_ready.1 hi
        have h1 := (peel_spec hp).1
        have := (Array.getElem?_eq_some_iff.1 k1).1
        simp at this
        omega
      have hm := (ready_lt hp hl (b := false) hin).1 hi
      refine wpOp_last hp hin (wpOp_mono (fun a' w' h => ?_) (hs i hm))
      have := ih (l.setIfInBounds i true) a' w' (by simpa using hl) (hc.set hm) h
      have e2 : (l.setIfInBounds i true).push false = (l.push false).setIfInBounds i true := by
        apply Array.ext_getElem?
        intro j
        simp only [Array.getElem?_setIfInBounds, Array.getElem?_push, Array.size_setIfInBounds]
        by_cases e1 : i = j
        · subst e1
          have g1 : ¬ (i = n) := by omega
          have g2 : i < n + 1 := by omega
          simp [hl, hin, g1, g2]
        · simp [e1]
      rw [e2] at this
      exact this

/-- The others by one condition on the world, then the last. -/
theorem wp_region_peel {id : Nat} {a : Act} {w : World} {S : World → Prop} (n : Nat) (o : Oper) (hm : P.follows .mixedOrders = true) (hp : peelB .any L n = true) (ho : L[n]? = some o)
    (h : wpAnyH P .any (L.take n).toArray (lastQ P o Q) S n (Array.replicate n false) a { w with drawn := w.drawn + 1 }) : (Code.region id L.toArray true).wp P Q a w := by
  refine wp_region_any hm ?_
  have h1 := (peel_spec hp).1
  have := wpAny_peel hp ho n (Array.replicate n false) a { w with drawn := w.drawn + 1 } (by simp) (fun j oj hj _ hg => by simp [Array.getD_eq_getD_getElem?, hj] at hg) (wpAny_of_held _ _ _ _ h)
  have e : (Array.replicate n false).push false = Array.replicate L.toArray.size false := by
    rw [List.size_toArray, h1, Array.replicate_succ]
  rw [e] at this
  rw [List.size_toArray, h1]
  rw [List.size_toArray, h1] at this
  exact this

theorem takeH {S : World → Prop} {l : List Oper} (i : Nat) {oi : Oper} {v : Value} {fuel : Nat} {listed : Array Bool} {a : Act} {w : World} (hi : l[i]? = some oi)
    (hs : Region.noSelect l.toArray = true) (hf : Region.free md l.toArray listed i = true) (hr : (Region.ready md l.toArray listed).contains i = true)
    (hQ : ∀ c a w, Q (.panic c) (a.put oi.dst v) w → Q (.panic c) a w) (hg : oi.guard = none) (hy : ∀ w, S w → (execOp a.eval oi).run P w = .ok (.value v) w) (hS : S w)
    (h : wpAnyH P md l.toArray Q S fuel (listed.setIfInBounds i true) (a.put oi.dst v) w) : wpAnyH P md l.toArray Q S (fuel + 1) listed a w :=
  wpAnyH_take (by simpa using hi) hs hf hr hQ (Or.inl ⟨by simp [Region.wanted, hg], hy⟩) hS h

theorem oneH {S : World → Prop} {l : List Oper} (i : Nat) {oi : Oper} {fuel : Nat} {listed : Array Bool} {a : Act} {w : World} (hr : Region.ready md l.toArray listed = [i]) (hi : l[i]? = some oi) (hg : oi.guard = none)
    (h : ∀ K : Act → World → Prop, (∀ a' w', S w' → wpAnyH P md l.toArray Q S fuel (listed.setIfInBounds i true) a' w' → K a' w') → oi.wp P a w K Q) : wpAnyH P md l.toArray Q S (fuel + 1) listed a w := by
  refine wpAnyH_all hr (by simp) ?_
  intro j hj
  obtain rfl : j = i := by simpa using hj
  unfold wpOp
  have hi' : l.toArray[j]? = some oi := by simpa using hi
  rw [hi']
  have hw : ∀ y, Region.wanted oi y = true := fun y => by simp [Region.wanted, hg]
  simp only [hw, if_true]
  exact .inl (h _ fun a' w' h1 h2 => ⟨h1, h2⟩)

end
end Go.Proofs.Ytbjlbmofdnkmiaa.Kit

/-
  OWN TEXT. A region that draws its order, walked in the order of the text: operations that only read under a condition on the world, and single ones that write, which come up alone; over whatever program.
-/
namespace Go.Proofs.Ytbjlbmofdnkmiaa.Kit
open Go Go.RowKit

/-- The order of the text is as good as any: what reads may be taken first, what writes comes up alone. -/
def lexH (md : Region.Mode) (ops : Array Oper) (eff : List Nat) : Nat → Nat → Array Bool → Bool
  | 0, _, listed => (Region.ready md ops listed).isEmpty
  | n + 1, k, listed => (bif memN eff k then Region.ready md ops listed == [k] else (Region.ready md ops listed).contains k && Region.free md ops listed k) && lexH md ops eff n (k + 1) (listed.setIfInBounds k true)
def lexHB (ops : Array Oper) (eff : List Nat) : Bool := Region.noSelect ops && lexH .any ops eff ops.size 0 (Array.replicate ops.size false)

/-- The walk. -/
def wpHL (P : Program) (l : List Oper) (Q : Exit → Act → World → Prop) (S : World → Prop) (eff : List Nat) : Nat → List Oper → Act → World → Prop
  | _, [], a, w => Q .normal a w
  | k, o :: rest, a, w =>
    if memN eff k = true then (if Region.wanted o (yielded l.toArray a.tmps) then o.wp P a w (fun a' w' => S w' ∧ wpHL P l Q S eff (k + 1) rest a' w') Q else wpHL P l Q S eff (k + 1) rest (a.put o.dst undef) w)
    else ∃ v, ((Region.wanted o (yielded l.toArray a.tmps) = true ∧ ∀ wx, S wx → (execOp a.eval o).run P wx = .ok (.value v) wx) ∨ (Region.wanted o (yielded l.toArray a.tmps) = false ∧ v = undef)) ∧ wpHL P l Q S eff (k + 1) rest (a.put o.dst v) w

/-- At a panic's exit no slot is looked at. -/
def Blind (Q : Exit → Act → World → Prop) : Prop := ∀ c (a : Act) w d v, Q (.panic c) (a.put d v) w → Q (.panic c) a w

theorem blind_then {K : Act → World → Prop} {Q : Exit → Act → World → Prop} (h : Blind Q) : Blind (Exit.then K Q) := fun c a w d v g => h c a w d v g
theorem blind_in {i : Nat} {Q : Exit → Act → World → Prop} (h : Blind Q) : Blind (Exit.inBlock i Q) := fun c a w d v g => h c a w d v g
theorem blind_body {P : Program} {fn : Func} {R : Ending → World → Prop} : Blind (bodyPost P fn R) := fun c a w d v g => by
  cases d with
  | none => exact g
  | some d => exact g

section
variable {P : Program} {l : List Oper} {Q : Exit → Act → World → Prop} {S : World → Prop} {eff : List Nat}
theorem wpAnyH_lex (hs : Region.noSelect l.toArray = true) (hQ : Blind Q) : ∀ (r : List Oper) (k : Nat) (listed : Array Bool) (a : Act) (w : World), (∀ j, r[j]? = l[k + j]?) → S w →
    lexH .any l.toArray eff r.length k listed = true → wpHL P l Q S eff k r a w → wpAnyH P .any l.toArray Q S r.length listed a w
  | [], k, listed, a, w, _, _, hB, h => by
    refine ⟨by simpa [lexH] using hB, h⟩
  | o :: r, k, listed, a, w, hl, hS, hB, h => by
    have h0 : l[k]? = some o := by simpa using (hl 0).symm
    have hl' : ∀ j, r[j]? = l[k + 1 + j]? := fun j => by have := hl (j + 1); simpa [Nat.add_assoc, Nat.add_comm 1 j] using this
    unfold lexH at hB
    unfold wpHL at h
    simp only [List.length_cons, Bool.and_eq_true] at hB ⊢
    obtain ⟨hB1, hB2⟩ := hB
    cases hm : memN eff k with
    | true =>
      rw [hm] at hB1
      rw [if_pos hm] at h
      simp only [cond_true, beq_iff_eq] at hB1
      refine wpAnyH_all hB1 (by simp) ?_
      intro i hi
      obtain rfl : i = k := by simpa using hi
      unfold wpOp
      have h0' : l.toArray[i]? = some o := by simpa using h0
      rw [h0']
      simp only
      by_cases hw : Region.wanted o (yielded l.toArray a.tmps) = true
      · rw [if_pos hw] at h ⊢
        exact .inl (Oper.wp_mono (fun a' w' ⟨g1, g2⟩ => ⟨g1, wpAnyH_lex hs hQ r (i + 1) _ a' w' hl' g1 hB2 g2⟩) h)
      · rw [if_neg hw] at h ⊢
        exact ⟨hS, wpAnyH_lex hs hQ r (i + 1) _ _ w hl' hS hB2 h⟩
    | false =>
      rw [hm] at hB1
      rw [if_neg (by rw [hm]; exact Bool.false_ne_true)] at h
      simp only [cond_false, Bool.and_eq_true] at hB1
      obtain ⟨v, hv, hk⟩ := h
      refine wpAnyH_take (by simpa using h0) hs hB1.2 hB1.1 (fun c a' w' => hQ c a' w' _ _) ?_ hS (wpAnyH_lex hs hQ r (k + 1) _ _ w hl' hS hB2 hk)
      rcases hv with ⟨g1, g2⟩ | ⟨g1, g2⟩
      · exact .inl ⟨g1, g2⟩
      · exact .inr ⟨g1, g2⟩

theorem sx_held {id : Nat} {A : Act} {w : World} (S : World → Prop) (eff : List Nat) (hm : P.follows .mixedOrders = true) (hB : lexHB l.toArray eff = true) (hQ : Blind Q) (hS : S { w with drawn := w.drawn + 1 })
    (h : wpHL P l Q S eff 0 l A { w with drawn := w.drawn + 1 }) : (Code.region id l.toArray true).wp P Q A w := by
  unfold lexHB at hB
  simp only [Bool.and_eq_true] at hB
  refine wp_region_held (S := S) hm ?_
  have := wpAnyH_lex hB.1 hQ l 0 (Array.replicate l.toArray.size false) A { w with drawn := w.drawn + 1 } (fun j => by simp) hS (by simpa using hB.2) h
  simpa using this

variable {A : Act} {N : Nat} {L : List (Nat × Value)} {rest : List Oper} {o : Oper} {w : World} {k : Nat}
theorem h_nil (h : Q .normal A w) : wpHL P l Q S eff k [] A w := h
theorem h_do {d : Nat} {v : Value} (f : Fr A N L) (he : memN eff k = false) (hd : o.dst = some d) (hN : Nat.blt d N = true) (hw : wantB l L o = some true) (hy : YC P S L o v)
    (h : ∀ A', Fr A' N ((d, v) :: L) → wpHL P l Q S eff (k + 1) rest A' w) : wpHL P l Q S eff k (o :: rest) A w := by
  unfold wpHL
  rw [if_neg (by rw [he]; exact Bool.false_ne_true)]
  refine ⟨v, .inl ⟨f.wanted hw, hy A.eval (fun x u hu => f.ev hu)⟩, ?_⟩
  rw [hd]
  exact h _ (f.put d v (by simpa [Nat.blt_eq] using hN))
theorem h_if {d : Nat} (p : Prop) [Decidable p] (f : Fr A N L) (he : memN eff k = false) (hd : o.dst = some d) (hN : Nat.blt d N = true) (hw : wantB l L o = some true) (hy : YC P S L o (.bool (decide p)))
    (ht : p → ∀ A', Fr A' N ((d, .bool true) :: L) → wpHL P l Q S eff (k + 1) rest A' w) (hf : ¬ p → ∀ A', Fr A' N ((d, .bool false) :: L) → wpHL P l Q S eff (k + 1) rest A' w) : wpHL P l Q S eff k (o :: rest) A w := by
  refine h_do f he hd hN hw hy ?_
  by_cases hp : p
  · rw [decide_eq_true hp]; exact ht hp
  · rw [decide_eq_false hp]; exact hf hp
theorem h_no {d : Nat} (f : Fr A N L) (hd : o.dst = some d) (hN : Nat.blt d N = true) (hw : wantB l L o = some false)
    (h : ∀ A', Fr A' N ((d, undef) :: L) → wpHL P l Q S eff (k + 1) rest A' w) : wpHL P l Q S eff k (o :: rest) A w := by
  have hw' := f.wanted hw
  have hk := h _ (f.put d undef (by simpa [Nat.blt_eq] using hN))
  unfold wpHL
  by_cases he : memN eff k = true
  · rw [if_pos he, if_neg (by rw [hw']; exact Bool.false_ne_true), hd]
    exact hk
  · rw [if_neg he]
    refine ⟨undef, .inr ⟨hw', rfl⟩, ?_⟩
    rw [hd]
    exact hk
/-- A call that may write, alone. -/
theorem h_call {d : Nat} {g : FuncId} {args : List Value} {R : Ending → World → Prop} (f : Fr A N L) (he : memN eff k = true) (hd : o.dst = some d) (hN : Nat.blt d N = true) (hw : wantB l L o = some true) (hc : IsCall L o g args) (hp : Plain P g)
    (hR : Calls P g args.toArray w R) (h : ∀ e w', R e w' → ∃ v, e = .returned v ∧ S w' ∧ ∀ A', Fr A' N ((d, v) :: L) → wpHL P l Q S eff (k + 1) rest A' w') : wpHL P l Q S eff k (o :: rest) A w := by
  unfold wpHL
  rw [if_pos he, if_pos (f.wanted hw)]
  unfold Oper.wp
  rw [hc.run hp (fun x u hu => f.ev hu) w, Oper.upon_enter]
  refine hR.mono fun e w' he => ?_
  obtain ⟨v, rfl, hS, hk⟩ := h e w' he
  rw [hd]
  exact ⟨hS, hk _ (f.put d v (by simpa [Nat.blt_eq] using hN))⟩
/-- A call that writes nothing, whose outcome parts the walk. -/
theorem h_callif {d : Nat} {g : FuncId} {args : List Value} (p : Prop) [Decidable p] (f : Fr A N L) (he : memN eff k = true) (hd : o.dst = some d) (hN : Nat.blt d N = true) (hw : wantB l L o = some true) (hc : IsCall L o g args) (hp : Plain P g)
    (hR : Calls P g args.toArray w fun e w' => e = .returned (.bool (decide p)) ∧ Below w.heap.size w w') (hS : ∀ W, Below w.heap.size w W → S W)
    (ht : p → ∀ W, Below w.heap.size w W → ∀ A', Fr A' N ((d, .bool true) :: L) → wpHL P l Q S eff (k + 1) rest A' W) (hf : ¬ p → ∀ W, Below w.heap.size w W → ∀ A', Fr A' N ((d, .bool false) :: L) → wpHL P l Q S eff (k + 1) rest A' W) : wpHL P l Q S eff k (o :: rest) A w := by
  refine h_call f he hd hN hw hc hp hR ?_
  rintro e W ⟨rfl, hb⟩
  refine ⟨_, rfl, hS W hb, ?_⟩
  by_cases hp : p
  · rw [decide_eq_true hp]; exact ht hp W hb
  · rw [decide_eq_false hp]; exact hf hp W hb
/-- A call that writes nothing, its outcome known. -/
theorem h_callv {d : Nat} {g : FuncId} {args : List Value} {v : Value} (f : Fr A N L) (he : memN eff k = true) (hd : o.dst = some d) (hN : Nat.blt d N = true) (hw : wantB l L o = some true) (hc : IsCall L o g args) (hp : Plain P g)
    (hR : Calls P g args.toArray w fun e w' => e = .returned v ∧ Below w.heap.size w w') (hS : ∀ W, Below w.heap.size w W → S W)
    (h : ∀ W, Below w.heap.size w W → ∀ A', Fr A' N ((d, v) :: L) → wpHL P l Q S eff (k + 1) rest A' W) : wpHL P l Q S eff k (o :: rest) A w := by
  refine h_call f he hd hN hw hc hp hR ?_
  rintro e W ⟨rfl, hb⟩
  exact ⟨_, rfl, hS W hb, h W hb⟩

end
end Go.Proofs.Ytbjlbmofdnkmiaa.Kit

/-
  OWN TEXT. Slices of regions (two numbers each) over whatever program: one that can be read ('RegsAt'), one that the call owns.
-/
namespace Go.Proofs.Ytbjlbmofdnkmiaa.Kit
open Go Go.RowKit

/-- Regions as cells. -/
def rvals : List (Int × Int) → List Value
  | [] => []
  | r :: l => Value.int .i64 r.1 :: Value.int .i64 r.2 :: rvals l

theorem length_rvals (l : List (Int × Int)) : (rvals l).length = l.length * 2 := by
  induction l with
  | nil => rfl
  | cons r l ih => simp only [rvals, List.length_cons, ih]; omega
theorem rvals_append (l m : List (Int × Int)) : rvals (l ++ m) = rvals l ++ rvals m := by
  induction l with
  | nil => rfl
  | cons r l ih => simp [rvals, ih]
theorem rvals_fst (l : List (Int × Int)) (i : Nat) (h : i < l.length) : (rvals l)[i * 2]? = some (.int .i64 (l.getD i (0, 0)).1) := by
  induction l generalizing i with
  | nil => simp at h
  | cons r l ih =>
    cases i with
    | zero => simp [rvals]
    | succ i =>
      have := ih i (by simpa using h)
      rw [Nat.succ_mul]
      simpa [rvals] using this
theorem rvals_snd (l : List (Int × Int)) (i : Nat) (h : i < l.length) : (rvals l)[i * 2 + 1]? = some (.int .i64 (l.getD i (0, 0)).2) := by
  induction l generalizing i with
  | nil => simp at h
  | cons r l ih =>
    cases i with
    | zero => simp [rvals]
    | succ i =>
      have := ih i (by simpa using h)
      rw [Nat.succ_mul]
      simpa [rvals] using this
theorem rvals_oneCell (l : List (Int × Int)) : ∀ u ∈ rvals l, u.oneCell' = true := by
  induction l with
  | nil => intro u hu; simp [rvals] at hu
  | cons r l ih =>
    intro u hu
    simp only [rvals, List.mem_cons] at hu
    rcases hu with rfl | rfl | hu
    · rfl
    · rfl
    · exact ih u hu
theorem rvals_set_snd (l : List (Int × Int)) (i : Nat) (x : Int) (h : i < l.length) : (rvals l).set (i * 2 + 1) (.int .i64 x) = rvals (l.set i ((l.getD i (0, 0)).1, x)) := by
  induction l generalizing i with
  | nil => simp at h
  | cons r l ih =>
    cases i with
    | zero => simp [rvals]
    | succ i =>
      have := ih i (by simpa using h)
      rw [Nat.succ_mul]
      simpa [rvals] using this

/-- The cells from 'ao' on hold the regions 'l'. -/
def RegsAt (w : World) (ao : Option Addr) (l : List (Int × Int)) : Prop :=
  ∀ i, i < l.length → ∃ b off, ao = some ⟨b, off, none⟩ ∧ w.cell? ⟨b, off + i * 2, none⟩ = some (.int .i64 (l.getD i (0, 0)).1) ∧ w.cell? ⟨b, off + i * 2 + 1, none⟩ = some (.int .i64 (l.getD i (0, 0)).2)

theorem RegsAt.below {w w' : World} {ao : Option Addr} {l : List (Int × Int)} (h : RegsAt w ao l) (hb : Below w.heap.size w w') : RegsAt w' ao l := by
  intro i hi
  obtain ⟨b, off, ha, h1, h2⟩ := h i hi
  exact ⟨b, off, ha, (hb.cell (p := ⟨b, off + i * 2, none⟩) (World.block_lt_of_cell? w _ h1)).trans h1, (hb.cell (p := ⟨b, off + i * 2 + 1, none⟩) (World.block_lt_of_cell? w _ h2)).trans h2⟩

theorem RegsAt.nil (w : World) (ao : Option Addr) : RegsAt w ao [] := fun i hi => absurd hi (by simp)

theorem regs_of_owns {w : World} {base : Nat} {e : TypeId} {ao : Option Addr} {n cap : Nat} {l : List (Int × Int)}
    (h : w.ownsRow base e 2 (.slice ao n cap) n (rvals l)) : RegsAt w ao l := by
  intro i hi
  have hl := h.1
  rw [length_rvals] at hl
  rcases h.2 with ⟨h', h0⟩ | ⟨g, cap', cur, h', _, hg, _, _, _, htake⟩
  · omega
  · simp only [Value.slice.injEq] at h'
    obtain ⟨rfl, _, rfl⟩ := h'
    refine ⟨g, 0, rfl, ?_, ?_⟩
    · rw [Nat.zero_add, h.cellAt (i * 2) (by omega), rvals_fst l i hi]
    · rw [Nat.zero_add, h.cellAt (i * 2 + 1) (by omega), rvals_snd l i hi]

theorem rowns_len {w : World} {base : Nat} {e : TypeId} {v : Value} {n : Nat} {l : List (Int × Int)}
    (h : w.ownsRow base e 2 v n (rvals l)) : l.length = n := by have := h.1; rw [length_rvals] at this; omega

/-- The source of an append. -/
theorem rsrc_of {w : World} {ao : Option Addr} {l : List (Int × Int)} (h : RegsAt w ao l) (h0 : 0 < l.length) : ∃ ad, ao = some ad ∧ ∀ j v, (rvals l)[j]? = some v → w.cell? (ad.add j) = some v := by
  obtain ⟨b, off, rfl, _⟩ := h 0 h0
  refine ⟨_, rfl, fun j v hj => ?_⟩
  have hadd : (⟨b, off, none⟩ : Addr).add j = ⟨b, off + j, none⟩ := by unfold Addr.add; split <;> simp_all
  rw [hadd]
  have hlt : j < (rvals l).length := (List.getElem?_eq_some_iff.1 hj).1
  rw [length_rvals] at hlt
  obtain ⟨b', off', he, c1, c2⟩ := h (j / 2) (by omega)
  simp only [Option.some.injEq, Addr.mk.injEq, and_true] at he
  obtain ⟨rfl, rfl⟩ := he
  rcases Nat.mod_two_eq_zero_or_one j with hm | hm
  · have e1 : j = j / 2 * 2 := by omega
    rw [e1, rvals_fst l _ (by omega)] at hj
    rw [← e1] at c1
    rw [c1]; exact hj
  · have e1 : j = j / 2 * 2 + 1 := by omega
    rw [e1, rvals_snd l _ (by omega)] at hj
    have e2 : off + j / 2 * 2 + 1 = off + j := by omega
    rw [e2] at c2
    rw [c2]; exact hj

/-- One region of a slice: its two cells, the numbers under names. -/
theorem RegsAt.at {w : World} {ao : Option Addr} {l : List (Int × Int)} (h : RegsAt w ao l) (k : Nat) (hk : k < l.length) : ∃ b off x y, ao = some ⟨b, off, none⟩ ∧ w.cell? ⟨b, off + k * 2, none⟩ = some (.int .i64 x) ∧ w.cell? ⟨b, off + k * 2 + 1, none⟩ = some (.int .i64 y) ∧ Hid (l.getD k (0, 0) = (x, y)) := by
  obtain ⟨b, off, ha, h1, h2⟩ := h k hk
  exact ⟨b, off, _, _, ha, h1, h2, rfl⟩

theorem rtake_snoc (l : List (Int × Int)) (k : Nat) (h : k < l.length) {x y : Int} (hx : l.getD k (0, 0) = (x, y)) : rvals (l.take k) ++ [Value.int .i64 x, Value.int .i64 y] = rvals (l.take (k + 1)) := by
  rw [List.getD_eq_getElem?_getD, List.getElem?_eq_getElem h] at hx
  simp only [Option.getD_some] at hx
  rw [List.take_succ_eq_append_getElem h, rvals_append, hx]
  rfl

/-- A slice of regions that can be read. -/
structure Regs (w : World) (ao : Option Addr) (n : Nat) (l : List (Int × Int)) : Prop where
  len : l.length = n
  reach : n * 16 ≤ 140737488351232
  at_ : RegsAt w ao l

theorem Regs.below {w w' : World} {ao : Option Addr} {n : Nat} {l : List (Int × Int)} (h : Regs w ao n l) (hb : Below w.heap.size w w') : Regs w' ao n l := ⟨h.len, h.reach, h.at_.below hb⟩

/-- Regions that lie elsewhere are read behind two stores. -/
theorem regs_set2 {W : World} {ao : Option Addr} {n b : Nat} {l : List (Int × Int)} (h : Regs W ao n l) (hne : ∀ a, ao = some a → a.block ≠ b) (x y : Value) : Regs ((W.setCell ⟨b, 0, none⟩ x).setCell ⟨b, 1, none⟩ y) ao n l := by
  refine ⟨h.len, h.reach, fun i hi => ?_⟩
  obtain ⟨c, o, ha, h1, h2⟩ := h.at_ i hi
  have hn := hne _ ha
  have key : ∀ j, ((W.setCell ⟨b, 0, none⟩ x).setCell ⟨b, 1, none⟩ y).cell? ⟨c, j, none⟩ = W.cell? ⟨c, j, none⟩ := fun j =>
    (World.cell?_setCell_other _ _ _ _ (by intro e; cases e; exact hn rfl)).trans (World.cell?_setCell_other _ _ _ _ (by intro e; cases e; exact hn rfl))
  exact ⟨c, o, ha, (key _).trans h1, (key _).trans h2⟩

/-- What the walk is told of a slice of regions that came in. -/
structure IsRegs (w : World) (ao : Option Addr) (n cap : Nat) (l : List (Int × Int)) : Prop where
  len : l.length = n
  le : n ≤ cap
  reach : cap * 16 ≤ 140737488351232
  nil : ao = none → n = 0 ∧ cap = 0
  at_ : RegsAt w ao l
  wf : ∀ r ∈ l, (-9223372036854775808 ≤ r.1 ∧ r.1 ≤ 9223372036854775807) ∧ (-9223372036854775808 ≤ r.2 ∧ r.2 ≤ 9223372036854775807)

theorem IsRegs.below {w w' : World} {ao : Option Addr} {n cap : Nat} {l : List (Int × Int)} (h : IsRegs w ao n cap l) (hb : Below w.heap.size w w') : IsRegs w' ao n cap l :=
  ⟨h.len, h.le, h.reach, h.nil, h.at_.below hb, h.wf⟩

theorem IsRegs.regs {w : World} {ao : Option Addr} {n cap : Nat} {l : List (Int × Int)} (h : IsRegs w ao n cap l) : Regs w ao n l :=
  ⟨h.len, by have := h.reach; have := h.le; omega, h.at_⟩

/-- A bool is returned that tells whether something holds. (A name of its own: the walk's simp leaves it standing.) -/
def RetIff (e : Ending) (p : Prop) : Prop := ∃ r : Bool, e = .returned (.bool r) ∧ (r = true ↔ p)

/-- A region that may be. -/
def regOk (r : Int × Int) : Prop := 0 ≤ r.1 ∧ r.1 ≤ 255 ∧ 1 ≤ r.2 ∧ r.2 ≤ 256 ∧ r.1 + r.2 ≤ 256

/-- Regions that may be. -/
structure MayP (l : List (Int × Int)) : Prop where
  len : l.length ≤ 40
  ok : ∀ i, i < l.length → regOk (l.getD i (0, 0))
  gap : ∀ i, i + 1 < l.length → (l.getD i (0, 0)).1 + (l.getD i (0, 0)).2 < (l.getD (i + 1) (0, 0)).1

/-- Is a page in one of them? -/
def inL (l : List (Int × Int)) (p : Int) : Bool := l.any fun r => decide (r.1 ≤ p ∧ p ≤ r.1 + r.2 - 1)

/-- No size is too great for a word. -/
def TopL (l : List (Int × Int)) : Prop := ∀ r ∈ l, r.2 ≤ 9223372036854775807
theorem TopL.at {l : List (Int × Int)} (h : TopL l) (k : Nat) (hk : k < l.length) {x y : Int} (e : l.getD k (0, 0) = (x, y)) : y ≤ 9223372036854775807 := by
  rw [List.getD_eq_getElem?_getD, List.getElem?_eq_getElem hk] at e
  have := h _ (List.getElem_mem hk)
  simp only [Option.getD_some] at e
  rw [e] at this
  exact this
theorem IsRegs.top {w : World} {ao : Option Addr} {n cap : Nat} {l : List (Int × Int)} (h : IsRegs w ao n cap l) : TopL l := fun r hr => (h.wf r hr).2.2
theorem wf_top {s : Int} (h : (Lit.int .i64 s).wf = true) : s ≤ 9223372036854775807 := by
  have := bounds_i64 h
  omega

end Go.Proofs.Ytbjlbmofdnkmiaa.Kit

/-
  OWN TEXT. Regions that may be, as plain mathematics: how they are made of pages, and that their pages tell them.
-/
namespace Go.Proofs.Ytbjlbmofdnkmiaa.Kit

/-- In order, apart, from lo on, up to hi. -/
def Canon (hi : Int) : Int → List (Int × Int) → Prop
  | _, [] => True
  | lo, r :: l => lo ≤ r.1 ∧ 1 ≤ r.2 ∧ r.1 + r.2 ≤ hi ∧ Canon hi (r.1 + r.2 + 1) l

/-- Where the next one may begin. -/
def endOf : Int → List (Int × Int) → Int
  | lo, [] => lo
  | _, r :: l => endOf (r.1 + r.2 + 1) l

theorem endOf_snoc (lo : Int) (l : List (Int × Int)) (r : Int × Int) : endOf lo (l ++ [r]) = r.1 + r.2 + 1 := by
  induction l generalizing lo with
  | nil => rfl
  | cons a l ih => exact ih _

theorem canon_snoc (hi lo : Int) (l : List (Int × Int)) (r : Int × Int) : Canon hi lo (l ++ [r]) ↔ Canon hi lo l ∧ endOf lo l ≤ r.1 ∧ 1 ≤ r.2 ∧ r.1 + r.2 ≤ hi := by
  induction l generalizing lo with
  | nil => simp [Canon, endOf]
  | cons a l ih =>
    show lo ≤ a.1 ∧ 1 ≤ a.2 ∧ a.1 + a.2 ≤ hi ∧ Canon hi (a.1 + a.2 + 1) (l ++ [r]) ↔ (lo ≤ a.1 ∧ 1 ≤ a.2 ∧ a.1 + a.2 ≤ hi ∧ Canon hi (a.1 + a.2 + 1) l) ∧ endOf (a.1 + a.2 + 1) l ≤ r.1 ∧ 1 ≤ r.2 ∧ r.1 + r.2 ≤ hi
    rw [ih]
    constructor
    · rintro ⟨h1, h2, h3, h4, h5, h6, h7⟩; exact ⟨⟨h1, h2, h3, h4⟩, h5, h6, h7⟩
    · rintro ⟨⟨h1, h2, h3, h4⟩, h5, h6, h7⟩; exact ⟨h1, h2, h3, h4, h5, h6, h7⟩

theorem canon_end {hi lo : Int} {l : List (Int × Int)} (h : Canon hi lo l) : lo ≤ endOf lo l := by
  induction l generalizing lo with
  | nil => exact Int.le_refl _
  | cons a l ih =>
    obtain ⟨a1, a2, a3, a4⟩ := h
    have := ih a4
    show lo ≤ endOf (a.1 + a.2 + 1) l
    omega

theorem canon_mono {hi hi' lo lo' : Int} {l : List (Int × Int)} (h : Canon hi lo l) (h1 : hi ≤ hi') (h2 : lo' ≤ lo) : Canon hi' lo' l := by
  induction l generalizing lo lo' with
  | nil => trivial
  | cons a l ih =>
    obtain ⟨a1, a2, a3, a4⟩ := h
    exact ⟨by omega, a2, by omega, ih a4 (Int.le_refl _)⟩

theorem inL_cons (a : Int × Int) (l : List (Int × Int)) (p : Int) : inL (a :: l) p = (decide (a.1 ≤ p ∧ p ≤ a.1 + a.2 - 1) || inL l p) := rfl

theorem inL_append (l m : List (Int × Int)) (p : Int) : inL (l ++ m) p = (inL l p || inL m p) := by simp [inL, List.any_append]

theorem inL_below {hi lo : Int} {l : List (Int × Int)} (h : Canon hi lo l) {p : Int} (hp : p < lo) : inL l p = false := by
  induction l generalizing lo with
  | nil => rfl
  | cons a l ih =>
    obtain ⟨a1, a2, a3, a4⟩ := h
    rw [inL_cons, ih a4 (by omega), Bool.or_false]
    exact decide_eq_false (by omega)

theorem inL_above {hi lo : Int} {l : List (Int × Int)} (h : Canon hi lo l) {p : Int} (hp : hi ≤ p) : inL l p = false := by
  induction l generalizing lo with
  | nil => rfl
  | cons a l ih =>
    obtain ⟨a1, a2, a3, a4⟩ := h
    rw [inL_cons, ih a4, Bool.or_false]
    exact decide_eq_false (by omega)

/-- Their pages tell them. -/
theorem canon_unique {hi lo : Int} {l m : List (Int × Int)} (hl : Canon hi lo l) (hm : Canon hi lo m) (h : ∀ p, lo ≤ p → p < hi → inL l p = inL m p) : l = m := by
  induction l generalizing lo m with
  | nil =>
    cases m with
    | nil => rfl
    | cons b m =>
      obtain ⟨b1, b2, b3, b4⟩ := hm
      have := h b.1 (by omega) (by omega)
      rw [inL_cons, decide_eq_true (by omega)] at this
      simp [inL] at this
  | cons a l ih =>
    obtain ⟨a1, a2, a3, a4⟩ := hl
    cases m with
    | nil =>
      have := h a.1 (by omega) (by omega)
      rw [inL_cons, decide_eq_true (by omega)] at this
      simp [inL] at this
    | cons b m =>
      obtain ⟨b1, b2, b3, b4⟩ := hm
      have e1 : a.1 = b.1 := by
        rcases Int.lt_trichotomy a.1 b.1 with g | g | g
        · have := h a.1 (by omega) (by omega)
          rw [inL_cons, inL_cons, decide_eq_true (by omega), inL_below b4 (by omega), decide_eq_false (by omega)] at this
          simp at this
        · exact g
        · have := h b.1 (by omega) (by omega)
          rw [inL_cons, inL_cons, decide_eq_false (by omega), inL_below a4 (by omega), decide_eq_true (by omega)] at this
          simp at this
      have e2 : a.2 = b.2 := by
        rcases Int.lt_trichotomy a.2 b.2 with g | g | g
        · have := h (a.1 + a.2) (by omega) (by omega)
          rw [inL_cons, inL_cons, decide_eq_false (by omega), inL_below a4 (by omega), decide_eq_true (by omega)] at this
          simp at this
        · exact g
        · have := h (b.1 + b.2) (by omega) (by omega)
          rw [inL_cons, inL_cons, decide_eq_true (by omega), inL_below b4 (by omega), decide_eq_false (by omega)] at this
          simp at this
      have e : a = b := Prod.ext e1 e2
      subst e
      rw [ih a4 b4 (fun p hp hq => ?_)]
      have := h p (by omega) hq
      rw [inL_cons, inL_cons, decide_eq_false (by omega)] at this
      simpa using this

theorem canon_of_may {l : List (Int × Int)} (h : MayP l) : Canon 256 0 l := by
  have key : ∀ (l : List (Int × Int)) (lo : Int), (∀ i, i < l.length → regOk (l.getD i (0, 0))) → (∀ i, i + 1 < l.length → (l.getD i (0, 0)).1 + (l.getD i (0, 0)).2 < (l.getD (i + 1) (0, 0)).1) → (0 < l.length → lo ≤ (l.getD 0 (0, 0)).1) → Canon 256 lo l := by
    intro l
    induction l with
    | nil => intros; trivial
    | cons a l ih =>
      intro lo h1 h2 h3
      have ha := h1 0 (by simp)
      obtain ⟨p1, p2, p3, p4, p5⟩ := ha
      refine ⟨h3 (by simp), p3, p5, ih _ (fun i hi => ?_) (fun i hi => ?_) (fun hl => ?_)⟩
      · have := h1 (i + 1) (by simpa using hi); simpa using this
      · have := h2 (i + 1) (by simpa using hi); simpa using this
      · have := h2 0 (by simpa using hl)
        simp at this
        simp
        omega
  exact key l 0 h.ok h.gap (fun h0 => (h.ok 0 h0).1)

theorem may_of_canon {l : List (Int × Int)} (h : Canon 256 0 l) (hl : l.length ≤ 40) : MayP l := by
  have key : ∀ (l : List (Int × Int)) (lo : Int), 0 ≤ lo → Canon 256 lo l → (∀ i, i < l.length → regOk (l.getD i (0, 0))) ∧ (∀ i, i + 1 < l.length → (l.getD i (0, 0)).1 + (l.getD i (0, 0)).2 < (l.getD (i + 1) (0, 0)).1) := by
    intro l
    induction l with
    | nil => intros; exact ⟨fun i hi => by simp at hi, fun i hi => by simp at hi⟩
    | cons a l ih =>
      intro lo h0 h
      obtain ⟨a1, a2, a3, a4⟩ := h
      obtain ⟨i1, i2⟩ := ih (a.1 + a.2 + 1) (by omega) a4
      refine ⟨fun i hi => ?_, fun i hi => ?_⟩
      · cases i with
        | zero => exact ⟨by simp; omega, by simp; omega, by simpa using a2, by simp; omega, by simpa using a3⟩
        | succ i => have := i1 i (by simpa using hi); simpa using this
      · cases i with
        | zero =>
          cases l with
          | nil => simp at hi
          | cons b l => simp; have := a4.1; omega
        | succ i => have := i2 i (by simpa using hi); simpa using this
  obtain ⟨k1, k2⟩ := key l 0 (Int.le_refl _) h
  exact ⟨hl, k1, k2⟩

/-- The last one has a page more. -/
def bump (l : List (Int × Int)) : List (Int × Int) := l.set (l.length - 1) ((l.getD (l.length - 1) (0, 0)).1, (l.getD (l.length - 1) (0, 0)).2 + 1)

theorem bump_snoc (l : List (Int × Int)) (r : Int × Int) : bump (l ++ [r]) = l ++ [(r.1, r.2 + 1)] := by
  simp [bump, List.getD_eq_getElem?_getD]

/-- Regions of the pages below k of which something holds. -/
def drawnK (h : Int → Bool) : Nat → List (Int × Int)
  | 0 => []
  | k + 1 => if h k then (if 0 < k ∧ h (k - 1) then bump (drawnK h k) else drawnK h k ++ [((k : Int), 1)]) else drawnK h k

structure DrawnInv (h : Int → Bool) (k : Nat) : Prop where
  canon : Canon k 0 (drawnK h k)
  pages : ∀ p : Int, 0 ≤ p → p < k → inL (drawnK h k) p = h p
  run : 0 < k → h (k - 1) = true → ∃ (l : List (Int × Int)) (f s : Int), drawnK h k = l ++ [(f, s)] ∧ f + s = k
  fresh : ¬ (0 < k ∧ h (k - 1) = true) → endOf 0 (drawnK h k) ≤ k

theorem drawn_inv (h : Int → Bool) (k : Nat) : DrawnInv h k := by
  induction k with
  | zero => exact ⟨trivial, fun p h1 h2 => by omega, fun h0 => by omega, fun _ => Int.le_refl _⟩
  | succ k ih =>
    obtain ⟨i1, i2, i3, i4⟩ := ih
    have ek : ((k + 1 : Nat) : Int) - 1 = k := by omega
    by_cases hk : h k = true
    · by_cases hr : 0 < k ∧ h (k - 1) = true
      · obtain ⟨l, f, s, e, hfs⟩ := i3 hr.1 hr.2
        have ed : drawnK h (k + 1) = l ++ [(f, s + 1)] := by
          simp only [drawnK]
          rw [if_pos hk, if_pos hr, e, bump_snoc]
        rw [e, canon_snoc] at i1
        obtain ⟨c1, c2, c3, c4⟩ := i1
        dsimp only at c2 c3 c4
        refine ⟨?_, ?_, ?_, ?_⟩
        · rw [ed, canon_snoc]; exact ⟨canon_mono c1 (by omega) (Int.le_refl _), c2, by dsimp only; omega, by dsimp only; omega⟩
        · intro p h1 h2
          rw [ed, inL_append]
          by_cases hp : p < k
          · have := i2 p h1 hp
            rw [e, inL_append] at this
            rw [← this]
            congr 1
            simp only [inL, List.any_cons, List.any_nil, Bool.or_false]
            congr 1
            apply propext
            constructor <;> intro g <;> omega
          · have : p = k := by omega
            subst this
            rw [hk]
            simp only [inL, List.any_cons, List.any_nil, Bool.or_false, Bool.or_eq_true]
            right
            exact decide_eq_true (by omega)
        · intro _ _; exact ⟨l, f, s + 1, ed, by omega⟩
        · intro g; exact absurd ⟨by omega, by rw [ek]; exact hk⟩ g
      · have ed : drawnK h (k + 1) = drawnK h k ++ [((k : Int), 1)] := by
          simp only [drawnK]
          rw [if_pos hk, if_neg hr]
        have hf := i4 hr
        refine ⟨?_, ?_, ?_, ?_⟩
        · rw [ed, canon_snoc]; exact ⟨canon_mono i1 (by omega) (Int.le_refl _), hf, by dsimp only; omega, by dsimp only; omega⟩
        · intro p h1 h2
          rw [ed, inL_append]
          by_cases hp : p < k
          · rw [i2 p h1 hp]
            simp only [inL, List.any_cons, List.any_nil, Bool.or_false]
            rw [decide_eq_false (by omega), Bool.or_false]
          · have : p = k := by omega
            subst this
            rw [hk]
            simp only [inL, List.any_cons, List.any_nil, Bool.or_false, Bool.or_eq_true]
            right
            exact decide_eq_true (by omega)
        · intro _ _; exact ⟨_, _, _, ed, by omega⟩
        · intro g; exact absurd ⟨by omega, by rw [ek]; exact hk⟩ g
    · have ed : drawnK h (k + 1) = drawnK h k := by
        simp only [drawnK]
        rw [if_neg hk]
      refine ⟨?_, ?_, ?_, ?_⟩
      · rw [ed]; exact canon_mono i1 (by omega) (Int.le_refl _)
      · intro p h1 h2
        rw [ed]
        by_cases hp : p < k
        · exact i2 p h1 hp
        · have : p = k := by omega
          subst this
          rw [inL_above i1 (Int.le_refl _)]
          simpa using hk
      · intro _ g; rw [ek] at g; exact absurd g hk
      · intro _
        rw [ed]
        by_cases hr : 0 < k ∧ h (k - 1) = true
        · obtain ⟨l, f, s, e, hfs⟩ := i3 hr.1 hr.2
          rw [e, endOf_snoc]; dsimp only; omega
        · have := i4 hr; omega

/-- Regions of all pages of which something holds. -/
def drawnAll (h : Int → Bool) : List (Int × Int) := drawnK h 256
theorem drawn_all (h : Int → Bool) (k : Nat) (hk : k = 256) : drawnK h k = drawnAll h := by subst hk; rfl

/-- Regions that have the same pages are those that are drawn. -/
theorem drawn_of_canon {h : Int → Bool} {l : List (Int × Int)} (hl : Canon 256 0 l) (hp : ∀ p : Int, 0 ≤ p → p < 256 → inL l p = h p) : drawnAll h = l := by
  have inv := drawn_inv h 256
  have e := drawn_all h 256 rfl
  have c1 := inv.canon
  have c2 := inv.pages
  rw [e] at c1 c2
  exact canon_unique c1 hl (fun p h1 h2 => by rw [c2 p h1 h2, hp p h1 h2])

theorem drawnAll_canon (h : Int → Bool) : Canon 256 0 (drawnAll h) := by
  have := (drawn_inv h 256).canon
  rw [drawn_all h 256 rfl] at this
  exact this

theorem drawnAll_pages (h : Int → Bool) (p : Int) (h1 : 0 ≤ p) (h2 : p < 256) : inL (drawnAll h) p = h p := by
  have := (drawn_inv h 256).pages p h1 h2
  rw [drawn_all h 256 rfl] at this
  exact this

end Go.Proofs.Ytbjlbmofdnkmiaa.Kit

/-
  OWN TEXT. Marks of 256 pages as a block of cells, and worlds that differ in one block alone.
-/
namespace Go.Proofs.Ytbjlbmofdnkmiaa.Kit
open Go Go.RowKit

theorem below_box (w : World) (o : Obj) : Below w.heap.size w (w.alloc o) := (Below.refl _ _).alloc (Nat.le_refl _) _

/-- The marks of a set of pages, as cells. -/
def mk (h : Int → Bool) : Array Value := Array.ofFn (n := 256) fun i => .bool (h (i.val : Int))

theorem mk_size (h : Int → Bool) : (mk h).size = 256 := Array.size_ofFn
theorem mk_get (h : Int → Bool) (p : Nat) (hp : p < 256) : (mk h)[p]? = some (.bool (h p)) := by
  unfold mk
  rw [Array.getElem?_ofFn, dif_pos hp]
theorem mk_eq {cs : Array Value} {h : Int → Bool} (hs : cs.size = 256) (hc : ∀ p : Nat, p < 256 → cs[p]? = some (.bool (h p))) : cs = mk h := by
  apply Array.ext_getElem?
  intro i
  by_cases hi : i < 256
  · rw [hc i hi, mk_get h i hi]
  · rw [Array.getElem?_eq_none (by omega), Array.getElem?_eq_none (by rw [mk_size]; omega)]
theorem mk_ext {h g : Int → Bool} (e : ∀ p : Nat, p < 256 → h p = g p) : mk h = mk g := mk_eq (mk_size h) (fun p hp => by rw [mk_get h p hp, e p hp])
theorem mk_oneCell (h : Int → Bool) : ∀ v ∈ (mk h).toList, v.oneCell' = true := by
  intro v hv
  obtain ⟨i, hi, rfl⟩ := List.getElem_of_mem hv
  rw [Array.length_toList, mk_size] at hi
  have e := mk_get h i hi
  rw [Array.getElem?_eq_getElem (by rw [mk_size]; exact hi)] at e
  rw [Array.getElem_toList, Option.some.inj e]
  rfl

/-- Pages f .. f+s-1 are set. -/
def setH (f s : Int) (v : Bool) (h : Int → Bool) (p : Int) : Bool := if f ≤ p ∧ p < f + s then v else h p

theorem mk_set0 (f : Int) (v : Bool) (h : Int → Bool) : mk (setH f 0 v h) = mk h := mk_ext fun p _ => by unfold setH; rw [if_neg (by omega)]

theorem mk_set (h : Int → Bool) (f k : Nat) (v : Bool) (hp : f + k < 256) : (mk (setH f k v h)).setIfInBounds (f + k) (.bool v) = mk (setH f ((k + 1 : Nat) : Int) v h) := by
  refine mk_eq (by rw [Array.size_setIfInBounds, mk_size]) fun p hp' => ?_
  rw [Array.getElem?_setIfInBounds]
  by_cases e : f + k = p
  · rw [if_pos e, if_pos (by rw [mk_size]; omega)]
    unfold setH
    rw [if_pos (by omega)]
  · rw [if_neg e, mk_get _ p hp']
    unfold setH
    by_cases g : (f : Int) ≤ p ∧ (p : Int) < f + k
    · rw [if_pos g, if_pos (by omega)]
    · rw [if_neg g, if_neg (by omega)]

theorem load_row {P : Program} {W : World} {g : Nat} {t : TypeId} {cs : Array Value} {fr : Nat × Nat} {n : Nat} (hg : W.heap[g]? = some (.cells cs t fr)) (hn : cs.size = n) : (loadCellsFrom ⟨g, 0, none⟩ 0 n #[]).run P W = .ok cs W := by
  subst hn
  have := run_loadCells_list (P := P) W ⟨g, 0, none⟩ cs.toList (fun j v hv => by
    have hadd : (⟨g, 0, none⟩ : Addr).add j = ⟨g, j, none⟩ := by unfold Addr.add; split <;> simp_all
    rw [hadd, cell_of_row _ _ j cs t fr hg]
    simpa using hv)
  simpa [loadCells] using this

theorem store_row {P : Program} {W : World} {g : Nat} {t : TypeId} {old cs : Array Value} (hg : W.heap[g]? = some (.cells old t (0, 0))) (hn : old.size = cs.size) (h1 : ∀ v ∈ cs.toList, v.oneCell' = true) : (storeCells ⟨g, 0, none⟩ cs.toList 0).run P W = .ok () (W.setRow g cs) := by
  have := run_storeCells_from (P := P) g t cs.toList 0 old W hg (by simp; omega) h1
  simpa using this

/-- Nothing but block b differs in what was there. -/
structure But (b : Nat) (w w' : World) : Prop where
  os : w'.os = w.os
  tape : w'.tape = w.tape
  output : w'.output = w.output
  size : w.heap.size ≤ w'.heap.size
  block : ∀ k, k < w.heap.size → k ≠ b → w'.heap[k]? = w.heap[k]?

theorem But.refl (b : Nat) (w : World) : But b w w := ⟨rfl, rfl, rfl, Nat.le_refl _, fun _ _ _ => rfl⟩
theorem But.trans {b : Nat} {w w' w'' : World} (h : But b w w') (k : But b w' w'') : But b w w'' :=
  ⟨k.os.trans h.os, k.tape.trans h.tape, k.output.trans h.output, Nat.le_trans h.size k.size, fun i hi hb => (k.block i (Nat.lt_of_lt_of_le hi h.size) hb).trans (h.block i hi hb)⟩
theorem But.of_below {b : Nat} {w w' : World} (h : Below w.heap.size w w') : But b w w' := ⟨h.os, h.tape, h.output, h.size, fun k hk _ => h.block k hk⟩
theorem But.below {b B : Nat} {w w' : World} (h : But b w w') (hb : B ≤ b) (hB : B ≤ w.heap.size) : Below B w w' := ⟨h.os, h.tape, h.output, h.size, fun k hk => h.block k (by omega) (by omega)⟩
theorem But.setCell {b o : Nat} {w w' : World} (h : But b w w') (v : Value) : But b w (w'.setCell ⟨b, o, none⟩ v) := by
  refine ⟨h.os, h.tape, h.output, by simpa [World.setCell] using h.size, fun k hk hb => ?_⟩
  exact (Below.heap_setCell _ _ _ _ hb).trans (h.block k hk hb)
theorem But.drewN {b : Nat} {w w' : World} (h : But b w w') (d : Nat) : But b w (w'.drewN d) := h.trans (.of_below (below_drewN (Below.refl _ _) d))
theorem But.cell {b c o : Nat} {v : Value} {w w' : World} (h : But b w w') (hc : w.cell? ⟨c, o, none⟩ = some v) (hne : c ≠ b) : w'.cell? ⟨c, o, none⟩ = some v :=
  (World.cell?_of_block (a := ⟨c, o, none⟩) (h.block c (World.block_lt_of_cell? w _ hc) hne)).trans hc
theorem But.regs {b n : Nat} {ao : Option Addr} {l : List (Int × Int)} {w w' : World} (h : But b w w') (hr : Regs w ao n l) (hne : ∀ a, ao = some a → a.block ≠ b) : Regs w' ao n l := by
  refine ⟨hr.len, hr.reach, fun i hi => ?_⟩
  obtain ⟨c, o, ha, h1, h2⟩ := hr.at_ i hi
  exact ⟨c, o, ha, h.cell h1 (hne _ ha), h.cell h2 (hne _ ha)⟩

/-- Regions that can be read lie in blocks that are there. -/
theorem Regs.old {n : Nat} {ao : Option Addr} {l : List (Int × Int)} {w : World} (hr : Regs w ao n l) {b : Nat} (hb : w.heap.size ≤ b) {w' : World} (h : But b w w') : Regs w' ao n l := by
  refine ⟨hr.len, hr.reach, fun i hi => ?_⟩
  obtain ⟨c, o, ha, h1, h2⟩ := hr.at_ i hi
  have := World.block_lt_of_cell? w _ h1
  dsimp only at this
  exact ⟨c, o, ha, h.cell h1 (by omega), h.cell h2 (by omega)⟩

/-- The row of marks. -/
def MarksAt (w : World) (b : Nat) (t : TypeId) (h : Int → Bool) : Prop := w.heap[b]? = some (.cells (mk h) t (0, 0))

theorem MarksAt.cell {w : World} {b : Nat} {t : TypeId} {h : Int → Bool} (hm : MarksAt w b t h) (p : Nat) (hp : p < 256) : w.cell? ⟨b, p, none⟩ = some (.bool (h p)) := by
  rw [cell_of_row _ _ _ _ _ _ hm, mk_get h p hp]
theorem MarksAt.fz {w : World} {b : Nat} {t : TypeId} {h : Int → Bool} (hm : MarksAt w b t h) (p : Nat) : w.frozen? ⟨b, p, none⟩ = false := frozen_of_row _ _ _ _ _ hm
theorem MarksAt.lt {w : World} {b : Nat} {t : TypeId} {h : Int → Bool} (hm : MarksAt w b t h) : b < w.heap.size := (Array.getElem?_eq_some_iff.1 hm).1
theorem MarksAt.below {w w' : World} {b : Nat} {t : TypeId} {h : Int → Bool} (hm : MarksAt w b t h) (hb : Below w.heap.size w w') : MarksAt w' b t h := (hb.block b hm.lt).trans hm
theorem MarksAt.but {w w' : World} {b c : Nat} {t : TypeId} {h : Int → Bool} (hm : MarksAt w b t h) (hb : But c w w') (hne : b ≠ c) : MarksAt w' b t h := (hb.block b hm.lt hne).trans hm
theorem MarksAt.set {w : World} {b : Nat} {t : TypeId} {h : Int → Bool} {f k : Nat} {v : Bool} (hm : MarksAt w b t (setH f k v h)) (hp : f + k < 256) : MarksAt (w.setCell ⟨b, f + k, none⟩ (.bool v)) b t (setH f ((k + 1 : Nat) : Int) v h) := by
  unfold MarksAt
  rw [← mk_set h f k v hp]
  exact heap_setCell_same _ _ _ _ _ _ hm

/-- The first k regions are marked. -/
def markK (l : List (Int × Int)) (v : Bool) (h : Int → Bool) : Nat → Int → Bool
  | 0 => h
  | k + 1 => setH (l.getD k (0, 0)).1 (l.getD k (0, 0)).2 v (markK l v h k)

theorem markK_eq (l : List (Int × Int)) (v : Bool) (h : Int → Bool) (k : Nat) (hk : k ≤ l.length) (p : Int) : markK l v h k p = if inL (l.take k) p = true then v else h p := by
  induction k with
  | zero => simp [markK, inL]
  | succ k ih =>
    have hlt : k < l.length := by omega
    have e : l.getD k (0, 0) = l[k] := by rw [List.getD_eq_getElem?_getD, List.getElem?_eq_getElem hlt]; rfl
    rw [List.take_succ_eq_append_getElem hlt, inL_append]
    show setH (l.getD k (0, 0)).1 (l.getD k (0, 0)).2 v (markK l v h k) p = _
    unfold setH
    rw [ih (by omega), e]
    by_cases g : l[k].1 ≤ p ∧ p < l[k].1 + l[k].2
    · rw [if_pos g, if_pos]
      simp only [inL, List.any_cons, List.any_nil, Bool.or_false, Bool.or_eq_true]
      right
      exact decide_eq_true (by omega)
    · rw [if_neg g]
      have hf : inL [l[k]] p = false := by
        simp only [inL, List.any_cons, List.any_nil, Bool.or_false]
        exact decide_eq_false (by omega)
      rw [hf, Bool.or_false]

theorem markK_all (l : List (Int × Int)) : mk (markK l true (fun _ => false) l.length) = mk (inL l) := mk_ext fun p _ => by
  rw [markK_eq _ _ _ _ (Nat.le_refl _), List.take_length]
  cases inL l (p : Int) <;> rfl

theorem markK_free (M R : List (Int × Int)) : mk (markK R false (inL M) R.length) = mk (fun p => inL M p && !inL R p) := mk_ext fun p _ => by
  rw [markK_eq _ _ _ _ (Nat.le_refl _), List.take_length]
  cases inL R (p : Int) <;> cases inL M (p : Int) <;> rfl

end Go.Proofs.Ytbjlbmofdnkmiaa.Kit
