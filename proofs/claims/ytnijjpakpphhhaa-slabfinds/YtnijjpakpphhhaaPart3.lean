/-
  OWN TEXTS.
-/
import Derived.Test.YtnijjpakpphhhaaPart2
import Derived.OrdersHeld
import Derived.Laws.AppendOwn
import Derived.Laws.MakeOwn
import Derived.Deep.RegionLaw
import Derived.OwnWalk
import Derived.Lib.AppendZerosOnto
import Derived.Lib.AppendZeros
import Derived.Lib.Overlaps
import Derived.Laws.Externs
set_option maxRecDepth 10000
set_option maxHeartbeats 4000000
namespace Go.Proofs.Ytnijjpakpphhhaa.Kit
open Go Go.RowKit
def lastQ (P : Program) (o : Oper) (Q : Exit → Act → World → Prop) : Exit → Act → World → Prop
 | .normal, a, w => o.wp P a w (fun a' w' => Q .normal a' w') Q
 | .exit id, a, w => Q (.exit id) a w
 | .goto l, a, w => Q (.goto l) a w
 | .ret, a, w => Q .ret a w
 | .panic c, a, w => Q (.panic c) a w
 | .outgrown, a, w => Q .outgrown a w
theorem upon_last {P : Program} {o' o : Oper} {a : Act} {K : Act → World → Prop} {Q : Exit → Act → World → Prop} {r : Result Next} (h : o'.upon P a K (lastQ P o Q) r) : o'.upon P a K Q r := by
 cases r with
 | ok n w' =>
  cases n with
  | value v => exact h
  | skip => exact h
  | defer d => exact h
  | enter f args =>
   refine Calls.mono h ?_
   intro e w'' he
   cases e with
   | returned v => exact he
   | panicked c => exact he
   | outgrown => exact he
  | row r args => exact h
  | _ => exact h
 | halt k w' =>
  cases k with
  | panic v => exact h
  | _ => exact h
theorem mem_ready {md : Region.Mode} {ops : Array Oper} {l : Array Bool} {i : Nat} : i ∈ Region.ready md ops l ↔ ∃ oi, ops[i]? = some oi ∧ l.getD i true = false ∧ ∀ e ∈ oi.after, Region.binds md e = true → l.getD e.on false = true := by
 unfold Region.ready
 rw [List.mem_filter, List.mem_range]
 constructor
 ·rintro ⟨hi, h⟩
  rw [Array.getElem?_eq_getElem hi] at h ⊢
  simp only [Bool.and_eq_true, Bool.not_eq_true', Option.map_some, Option.getD_some] at h
  refine ⟨_, rfl, h.1, fun e he hb => ?_⟩
  have := (Array.all_eq_true'.1 h.2) e he
  simpa [hb] using this
 ·rintro ⟨oi, h1, h2, h3⟩
  have hi := (Array.getElem?_eq_some_iff.1 h1).1
  refine ⟨hi, ?_⟩
  rw [h1, h2]
  simp only [Bool.not_false, Bool.true_and, Option.map_some, Option.getD_some]
  refine Array.all_eq_true'.2 fun e he => ?_
  cases hb : Region.binds md e with
  | false => rfl
  | true => simpa [hb] using h3 e he hb
def peelB (md : Region.Mode) (L : List Oper) (n : Nat) : Bool :=
 (L.length == n + 1) && ((List.range n).all fun i => ((L[i]?).map fun o => o.guard.isNone && o.after.all fun e => !Region.binds md e || decide (e.on < i)).getD false) &&
  (((L[n]?).map fun o => o.guard.isNone && (o.after.all fun e => !Region.binds md e || decide (e.on < n)) && (List.range n).all fun i => (o.after.any fun e => Region.binds md e && e.on == i) || ((List.range n).any fun j => decide (i < j) && ((L[j]?).map fun oj => oj.after.any fun e => Region.binds md e && e.on == i).getD false)).getD false)
section
variable {P : Program} {md : Region.Mode} {L : List Oper} {n : Nat} {o : Oper} {Q : Exit → Act → World → Prop}
theorem peel_spec (h : peelB md L n = true) : L.length = n + 1 ∧ (∀ i oi, i < n → L[i]? = some oi → oi.guard = none ∧ ∀ e ∈ oi.after, Region.binds md e = true → e.on < i) ∧ (∀ o, L[n]? = some o → o.guard = none ∧ (∀ e ∈ o.after, Region.binds md e = true → e.on < n) ∧ ∀ i, i < n → (∃ e ∈ o.after, Region.binds md e = true ∧ e.on = i) ∨ ∃ j oj, i < j ∧ j < n ∧ L[j]? = some oj ∧ ∃ e ∈ oj.after, Region.binds md e = true ∧ e.on = i) := by
 unfold peelB at h
 simp only [Bool.and_eq_true, beq_iff_eq] at h
 obtain ⟨⟨h1, h2⟩, h3⟩ := h
 refine ⟨h1, fun i oi hi ho => ?_, fun o ho => ?_⟩
 ·have := List.all_eq_true.1 h2 i (List.mem_range.2 hi)
  rw [ho] at this
  simp only [Option.map_some, Option.getD_some, Bool.and_eq_true, Option.isNone_iff_eq_none] at this
  exact ⟨this.1, fun e he hb => by have h := Array.all_eq_true'.1 this.2 e he; simpa [hb] using h⟩
 ·rw [ho] at h3
  simp only [Option.map_some, Option.getD_some, Bool.and_eq_true, Option.isNone_iff_eq_none] at h3
  refine ⟨h3.1.1, fun e he hb => by have h := Array.all_eq_true'.1 h3.1.2 e he; simpa [hb] using h, fun i hi => ?_⟩
  have := List.all_eq_true.1 h3.2 i (List.mem_range.2 hi)
  rcases Bool.or_eq_true _ _ ▸ this with this | this
  ·obtain ⟨e, he, hb⟩ := Array.any_eq_true'.1 this
   simp only [Bool.and_eq_true, beq_iff_eq] at hb
   exact .inl ⟨e, he, hb.1, hb.2⟩
  ·obtain ⟨j, hj, hb⟩ := List.any_eq_true.1 this
   simp only [Bool.and_eq_true, decide_eq_true_eq] at hb
   cases hq : L[j]? with
   | none => rw [hq] at hb; exact absurd hb.2 (by simp)
   | some oj =>
    rw [hq] at hb
    obtain ⟨e, he, hc⟩ := Array.any_eq_true'.1 hb.2
    simp only [Bool.and_eq_true, beq_iff_eq] at hc
    exact .inr ⟨j, oj, hb.1, List.mem_range.1 hj, hq, e, he, hc.1, hc.2⟩
theorem getD_push_lt {l : Array Bool} {b : Bool} {i : Nat} (h : i < l.size) (d : Bool) : (l.push b).getD i d = l.getD i d := by
 simp [Array.getD_eq_getD_getElem?, Array.getElem?_push, Nat.ne_of_lt h]
theorem getD_push_eq {l : Array Bool} {b : Bool} (d : Bool) : (l.push b).getD l.size d = b := by
 simp [Array.getD_eq_getD_getElem?]
theorem ready_lt (hp : peelB md L n = true) {l : Array Bool} (hl : l.size = n) {b : Bool} {i : Nat} (hi : i < n) : i ∈ Region.ready md L.toArray (l.push b) ↔ i ∈ Region.ready md (L.take n).toArray l := by
 obtain ⟨h1, h2, _⟩ := peel_spec hp
 rw [mem_ready, mem_ready]
 have e1 : (L.take n).toArray[i]? = L.toArray[i]? := by simp [hi]
 rw [e1, getD_push_lt (by omega)]
 constructor
 ·rintro ⟨oi, g1, g2, g3⟩
  refine ⟨oi, g1, g2, fun e he hb => ?_⟩
  have := g3 e he hb
  rwa [getD_push_lt (by have := (h2 i oi hi (by simpa using g1)).2 e he hb; omega)] at this
 ·rintro ⟨oi, g1, g2, g3⟩
  refine ⟨oi, g1, g2, fun e he hb => ?_⟩
  rw [getD_push_lt (by have := (h2 i oi hi (by simpa using g1)).2 e he hb; omega)]
  exact g3 e he hb
theorem all_of_empty (hp : peelB md L n = true) {l : Array Bool} (hl : l.size = n) (hr : Region.ready md (L.take n).toArray l = []) : ∀ i, i < n → l.getD i false = true := by
 obtain ⟨h1, h2, _⟩ := peel_spec hp
 intro i
 induction i using Nat.strongRecOn with
 | _ i ih =>
  intro hi
  cases hg : l.getD i false with
  | true => rfl
  | false =>
   exfalso
   have hlt : i < L.length := by omega
   have hm : i ∈ Region.ready md (L.take n).toArray l := by
    rw [mem_ready]
    refine ⟨L[i], by simp [hi], ?_, fun e he hb => ?_⟩
    ·simp only [Array.getD_eq_getD_getElem?, Array.getElem?_eq_getElem (show i < l.size by omega), Option.getD_some] at hg ⊢
     exact hg
    ·have := (h2 i L[i] hi (by simp)).2 e he hb
     exact ih e.on this (by omega)
   rw [hr] at hm
   cases hm
theorem n_ready (hp : peelB md L n = true) {l : Array Bool} (hl : l.size = n) (ho : L[n]? = some o) (hr : Region.ready md (L.take n).toArray l = []) : n ∈ Region.ready md L.toArray (l.push false) := by
 have hall := all_of_empty hp hl hr
 obtain ⟨h1, h2, h3⟩ := peel_spec hp
 rw [mem_ready]
 refine ⟨o, by simpa using ho, by rw [← hl]; exact getD_push_eq _, fun e he hb => ?_⟩
 have := (h3 o ho).2.1 e he hb
 rw [getD_push_lt (by omega)]
 exact hall e.on this
def Closed (md : Region.Mode) (L : List Oper) (n : Nat) (l : Array Bool) : Prop :=
 ∀ j oj, j < n → L[j]? = some oj → l.getD j false = true → ∀ e ∈ oj.after, Region.binds md e = true → l.getD e.on false = true
theorem getD_set {l : Array Bool} {i j : Nat} (h : l.getD j false = true) : (l.setIfInBounds i true).getD j false = true := by
 simp only [Array.getD_eq_getD_getElem?, Array.getElem?_setIfInBounds] at h ⊢
 by_cases e : i = j
 ·subst e
  by_cases g : i < l.size
  ·simp [g]
  ·rw [Array.getElem?_eq_none (by omega)] at h; cases h
 ·simpa [e] using h
theorem Closed.set {l : Array Bool} (h : Closed md L n l) {i : Nat} (hi : i ∈ Region.ready md (L.take n).toArray l) : Closed md L n (l.setIfInBounds i true) := by
 intro j oj hj ho hg e he hb
 by_cases q : i = j
 ·subst q
  obtain ⟨oi, k1, _, k3⟩ := mem_ready.1 hi
  have e1 : L[i]? = some oi := by simpa [hj] using k1
  rw [e1] at ho
  cases ho
  exact getD_set (k3 e he hb)
 ·have hg' : l.getD j false = true := by
   simp only [Array.getD_eq_getD_getElem?, Array.getElem?_setIfInBounds] at hg ⊢
   simpa [q] using hg
  exact getD_set (h j oj hj ho hg' e he hb)
theorem n_only (hp : peelB md L n = true) {l : Array Bool} (hl : l.size = n) (hc : Closed md L n l) (h : n ∈ Region.ready md L.toArray (l.push false)) : Region.ready md (L.take n).toArray l = [] := by
 obtain ⟨h1, h2, h3⟩ := peel_spec hp
 obtain ⟨o, ho, _, g⟩ := mem_ready.1 h
 have hall : ∀ d i, i < n → n - i = d → l.getD i false = true := by
  intro d
  induction d using Nat.strongRecOn with
  | _ d ih =>
   intro i hi hd
   rcases (h3 o (by simpa using ho)).2.2 i hi with ⟨e, he, hb, rfl⟩ | ⟨j, oj, hij, hj, hoj, e, he, hb, rfl⟩
   ·have := g e he hb
    rwa [getD_push_lt (by omega)] at this
   ·exact hc j oj hj hoj (ih (n - j) (by omega) j hj rfl) e he hb
 rw [List.eq_nil_iff_forall_not_mem]
 intro i hi
 obtain ⟨oi, k1, k2, _⟩ := mem_ready.1 hi
 have hin : i < n := by have := (Array.getElem?_eq_some_iff.1 k1).1; simp at this; omega
 have := hall _ i hin rfl
 simp only [Array.getD_eq_getD_getElem?, Array.getElem?_eq_getElem (show i < l.size by omega), Option.getD_some] at this k2
 rw [k2] at this
 cases this
theorem done_ready (hp : peelB md L n = true) {l : Array Bool} (hl : l.size = n) (hr : Region.ready md (L.take n).toArray l = []) : Region.ready md L.toArray (l.push true) = [] := by
 obtain ⟨h1, h2, h3⟩ := peel_spec hp
 rw [List.eq_nil_iff_forall_not_mem]
 intro i hi
 obtain ⟨oi, k1, k2, _⟩ := mem_ready.1 hi
 have hin : i < n + 1 := by have := (Array.getElem?_eq_some_iff.1 k1).1; simp at this; omega
 by_cases e : i = n
 ·rw [e, ← hl, getD_push_eq] at k2
  cases k2
 ·have := (ready_lt hp hl (show i < n by omega)).1 hi
  rw [hr] at this
  cases this
theorem wpOp_last (hp : peelB md L n = true) {i : Nat} (hi : i < n) {K : Act → World → Prop} {a : Act} {w : World} (h : wpOp P (L.take n).toArray (lastQ P o Q) i K a w) : wpOp P L.toArray Q i K a w := by
 obtain ⟨h1, h2, _⟩ := peel_spec hp
 have e1 : (L.take n).toArray[i]? = L.toArray[i]? := by simp [hi]
 have hlt : i < L.length := by omega
 have ho : L.toArray[i]? = some L[i] := by simp
 unfold wpOp at h ⊢
 rw [e1, ho] at h
 rw [ho]
 have hg := (h2 i L[i] hi (by simp)).1
 have hw : ∀ y, Region.wanted L[i] y = true := fun y => by simp [Region.wanted, hg]
 simp only [hw, if_true] at h ⊢
 rcases h with h | ⟨h, g⟩
 ·exact .inl (upon_last h)
 ·exact .inr ⟨h, g⟩
theorem wpAny_peel (hp : peelB md L n = true) (ho : L[n]? = some o) : ∀ (fuel : Nat) (l : Array Bool) (a : Act) (w : World), l.size = n → Closed md L n l → wpAny P md (L.take n).toArray (lastQ P o Q) fuel l a w → wpAny P md L.toArray Q (fuel + 1) (l.push false) a w := by
 have hg := (((peel_spec hp).2.2) o ho).1
 have hw : ∀ y, Region.wanted o y = true := fun y => by simp [Region.wanted, hg]
 have hnm : ∀ (l : Array Bool), l.size = n → Region.ready md L.toArray (l.push false) ≠ [] := by
  intro l hl he
  cases hr : Region.ready md (L.take n).toArray l with
  | nil => have := n_ready hp hl ho hr; rw [he] at this; cases this
  | cons i r =>
   have hm : i ∈ Region.ready md (L.take n).toArray l := by rw [hr]; exact List.mem_cons_self
   have hin : i < n := by
    obtain ⟨_, k1, _⟩ := mem_ready.1 hm
    have := (Array.getElem?_eq_some_iff.1 k1).1
    simp at this
    omega
   have := (ready_lt hp hl (b := false) hin).2 hm
   rw [he] at this
   cases this
 have hlast : ∀ (f : Nat) (l : Array Bool) (a : Act) (w : World), l.size = n → Region.ready md (L.take n).toArray l = [] → lastQ P o Q .normal a w → wpOp P L.toArray Q n (wpAny P md L.toArray Q f ((l.push false).setIfInBounds n true)) a w := by
  intro f l a w hl hr hq
  have hs : (l.push false).setIfInBounds n true = l.push true := by
   subst hl
   apply Array.ext_getElem?
   intro j
   simp only [Array.getElem?_setIfInBounds, Array.getElem?_push]
   by_cases e : l.size = j
   ·subst e; simp
   ·simp [e, Ne.symm e]
  rw [hs]
  unfold wpOp
  have ho' : L.toArray[n]? = some o := by simpa using ho
  rw [ho']
  simp only [hw, if_true]
  refine .inl (Oper.wp_mono (fun a' w' h => ?_) hq)
  have hd := done_ready hp hl hr
  cases f with
  | zero => exact ⟨hd, h⟩
  | succ f => exact ⟨fun _ => h, by rw [hd]; simp⟩
 intro fuel
 induction fuel with
 | zero =>
  rintro l a w hl _ ⟨hr, hq⟩
  refine ⟨fun h => absurd h (hnm l hl), fun i hi => ?_⟩
  have hin : i = n := by
   obtain ⟨_, k1, _⟩ := mem_ready.1 hi
   have h1 := (peel_spec hp).1
   have := (Array.getElem?_eq_some_iff.1 k1).1
   simp at this
   by_cases e : i = n
   ·exact e
   ·have := (ready_lt hp hl (b := false) (show i < n by omega)).1 hi
    rw [hr] at this
    cases this
  subst hin
  exact hlast 0 l a w hl hr hq
 | succ f ih =>
  rintro l a w hl hc ⟨hq, hs⟩
  refine ⟨fun h => absurd h (hnm l hl), fun i hi => ?_⟩
  by_cases e : i = n
  ·subst e
   have hr := n_only hp hl hc hi
   exact hlast (f + 1) l a w hl hr (hq hr)
  ·have hin : i < n := by
    obtain ⟨_, k1, _⟩ := mem_ready.1 hi
    have h1 := (peel_spec hp).1
    have := (Array.getElem?_eq_some_iff.1 k1).1
    simp at this
    omega
   have hm := (ready_lt hp hl (b := false) hin).1 hi
   refine wpOp_last hp hin (wpOp_mono (fun a' w' h => ?_) (hs i hm))
   have := ih (l.setIfInBounds i true) a' w' (by simpa using hl) (hc.set hm) h
   have e2 : (l.setIfInBounds i true).push false = (l.push false).setIfInBounds i true := by
    apply Array.ext_getElem?
    intro j
    simp only [Array.getElem?_setIfInBounds, Array.getElem?_push, Array.size_setIfInBounds]
    by_cases e1 : i = j
    ·subst e1
     have g1 : ¬ (i = n) := by omega
     have g2 : i < n + 1 := by omega
     simp [hl, hin, g1, g2]
    ·simp [e1]
   rw [e2] at this
   exact this
theorem wp_region_peel {id : Nat} {a : Act} {w : World} {S : World → Prop} (n : Nat) (o : Oper) (hm : P.follows .mixedOrders = true) (hp : peelB .any L n = true) (ho : L[n]? = some o)
    (h : wpAnyH P .any (L.take n).toArray (lastQ P o Q) S n (Array.replicate n false) a { w with drawn := w.drawn + 1 }) : (Code.region id L.toArray true).wp P Q a w := by
 refine wp_region_any hm ?_
 have h1 := (peel_spec hp).1
 have := wpAny_peel hp ho n (Array.replicate n false) a { w with drawn := w.drawn + 1 } (by simp) (fun j oj hj _ hg => by simp [Array.getD_eq_getD_getElem?, hj] at hg) (wpAny_of_held _ _ _ _ h)
 have e : (Array.replicate n false).push false = Array.replicate L.toArray.size false := by
  rw [List.size_toArray, h1, Array.replicate_succ]
 rw [e] at this
 rw [List.size_toArray, h1]
 rw [List.size_toArray, h1] at this
 exact this
theorem takeH {S : World → Prop} {l : List Oper} (i : Nat) {oi : Oper} {v : Value} {fuel : Nat} {listed : Array Bool} {a : Act} {w : World} (hi : l[i]? = some oi)
    (hs : Region.noSelect l.toArray = true) (hf : Region.free md l.toArray listed i = true) (hr : (Region.ready md l.toArray listed).contains i = true)
    (hQ : ∀ c a w, Q (.panic c) (a.put oi.dst v) w → Q (.panic c) a w) (hg : oi.guard = none) (hy : ∀ w, S w → (execOp a.eval oi).run P w = .ok (.value v) w) (hS : S w)
    (h : wpAnyH P md l.toArray Q S fuel (listed.setIfInBounds i true) (a.put oi.dst v) w) : wpAnyH P md l.toArray Q S (fuel + 1) listed a w :=
 wpAnyH_take (by simpa using hi) hs hf hr hQ (Or.inl ⟨by simp [Region.wanted, hg], hy⟩) hS h
theorem oneH {S : World → Prop} {l : List Oper} (i : Nat) {oi : Oper} {fuel : Nat} {listed : Array Bool} {a : Act} {w : World} (hr : Region.ready md l.toArray listed = [i]) (hi : l[i]? = some oi) (hg : oi.guard = none)
    (h : ∀ K : Act → World → Prop, (∀ a' w', S w' → wpAnyH P md l.toArray Q S fuel (listed.setIfInBounds i true) a' w' → K a' w') → oi.wp P a w K Q) : wpAnyH P md l.toArray Q S (fuel + 1) listed a w := by
 refine wpAnyH_all hr (by simp) ?_
 intro j hj
 obtain rfl : j = i := by simpa using hj
 unfold wpOp
 have hi' : l.toArray[j]? = some oi := by simpa using hi
 rw [hi']
 have hw : ∀ y, Region.wanted oi y = true := fun y => by simp [Region.wanted, hg]
 simp only [hw, if_true]
 exact .inl (h _ fun a' w' h1 h2 => ⟨h1, h2⟩)
end
def lexH (md : Region.Mode) (ops : Array Oper) (eff : List Nat) : Nat → Nat → Array Bool → Bool
 | 0, _, listed => (Region.ready md ops listed).isEmpty
 | n + 1, k, listed => (bif memN eff k then Region.ready md ops listed == [k] else (Region.ready md ops listed).contains k && Region.free md ops listed k) && lexH md ops eff n (k + 1) (listed.setIfInBounds k true)
def lexHB (ops : Array Oper) (eff : List Nat) : Bool := Region.noSelect ops && lexH .any ops eff ops.size 0 (Array.replicate ops.size false)
def wpHL (P : Program) (l : List Oper) (Q : Exit → Act → World → Prop) (S : World → Prop) (eff : List Nat) : Nat → List Oper → Act → World → Prop
 | _, [], a, w => Q .normal a w
 | k, o :: rest, a, w =>
  if memN eff k = true then (if Region.wanted o (yielded l.toArray a.tmps) then o.wp P a w (fun a' w' => S w' ∧ wpHL P l Q S eff (k + 1) rest a' w') Q else wpHL P l Q S eff (k + 1) rest (a.put o.dst undef) w)
  else ∃ v, ((Region.wanted o (yielded l.toArray a.tmps) = true ∧ ∀ wx, S wx → (execOp a.eval o).run P wx = .ok (.value v) wx) ∨ (Region.wanted o (yielded l.toArray a.tmps) = false ∧ v = undef)) ∧ wpHL P l Q S eff (k + 1) rest (a.put o.dst v) w
def Blind (Q : Exit → Act → World → Prop) : Prop := ∀ c (a : Act) w d v, Q (.panic c) (a.put d v) w → Q (.panic c) a w
theorem blind_then {K : Act → World → Prop} {Q : Exit → Act → World → Prop} (h : Blind Q) : Blind (Exit.then K Q) := fun c a w d v g => h c a w d v g
theorem blind_in {i : Nat} {Q : Exit → Act → World → Prop} (h : Blind Q) : Blind (Exit.inBlock i Q) := fun c a w d v g => h c a w d v g
theorem blind_body {P : Program} {fn : Func} {R : Ending → World → Prop} : Blind (bodyPost P fn R) := fun c a w d v g => by
 cases d with
 | none => exact g
 | some d => exact g
section
variable {P : Program} {l : List Oper} {Q : Exit → Act → World → Prop} {S : World → Prop} {eff : List Nat}
theorem wpAnyH_lex (hs : Region.noSelect l.toArray = true) (hQ : Blind Q) : ∀ (r : List Oper) (k : Nat) (listed : Array Bool) (a : Act) (w : World), (∀ j, r[j]? = l[k + j]?) → S w →
    lexH .any l.toArray eff r.length k listed = true → wpHL P l Q S eff k r a w → wpAnyH P .any l.toArray Q S r.length listed a w
 | [], k, listed, a, w, _, _, hB, h => by
  refine ⟨by simpa [lexH] using hB, h⟩
 | o :: r, k, listed, a, w, hl, hS, hB, h => by
  have h0 : l[k]? = some o := by simpa using (hl 0).symm
  have hl' : ∀ j, r[j]? = l[k + 1 + j]? := fun j => by have := hl (j + 1); simpa [Nat.add_assoc, Nat.add_comm 1 j] using this
  unfold lexH at hB
  unfold wpHL at h
  simp only [List.length_cons, Bool.and_eq_true] at hB ⊢
  obtain ⟨hB1, hB2⟩ := hB
  cases hm : memN eff k with
  | true =>
   rw [hm] at hB1
   rw [if_pos hm] at h
   simp only [cond_true, beq_iff_eq] at hB1
   refine wpAnyH_all hB1 (by simp) ?_
   intro i hi
   obtain rfl : i = k := by simpa using hi
   unfold wpOp
   have h0' : l.toArray[i]? = some o := by simpa using h0
   rw [h0']
   simp only
   by_cases hw : Region.wanted o (yielded l.toArray a.tmps) = true
   ·rw [if_pos hw] at h ⊢
    exact .inl (Oper.wp_mono (fun a' w' ⟨g1, g2⟩ => ⟨g1, wpAnyH_lex hs hQ r (i + 1) _ a' w' hl' g1 hB2 g2⟩) h)
   ·rw [if_neg hw] at h ⊢
    exact ⟨hS, wpAnyH_lex hs hQ r (i + 1) _ _ w hl' hS hB2 h⟩
  | false =>
   rw [hm] at hB1
   rw [if_neg (by rw [hm]; exact Bool.false_ne_true)] at h
   simp only [cond_false, Bool.and_eq_true] at hB1
   obtain ⟨v, hv, hk⟩ := h
   refine wpAnyH_take (by simpa using h0) hs hB1.2 hB1.1 (fun c a' w' => hQ c a' w' _ _) ?_ hS (wpAnyH_lex hs hQ r (k + 1) _ _ w hl' hS hB2 hk)
   rcases hv with ⟨g1, g2⟩ | ⟨g1, g2⟩
   ·exact .inl ⟨g1, g2⟩
   ·exact .inr ⟨g1, g2⟩
theorem sx_held {id : Nat} {A : Act} {w : World} (S : World → Prop) (eff : List Nat) (hm : P.follows .mixedOrders = true) (hB : lexHB l.toArray eff = true) (hQ : Blind Q) (hS : S { w with drawn := w.drawn + 1 })
    (h : wpHL P l Q S eff 0 l A { w with drawn := w.drawn + 1 }) : (Code.region id l.toArray true).wp P Q A w := by
 unfold lexHB at hB
 simp only [Bool.and_eq_true] at hB
 refine wp_region_held (S := S) hm ?_
 have := wpAnyH_lex hB.1 hQ l 0 (Array.replicate l.toArray.size false) A { w with drawn := w.drawn + 1 } (fun j => by simp) hS (by simpa using hB.2) h
 simpa using this
variable {A : Act} {N : Nat} {L : List (Nat × Value)} {rest : List Oper} {o : Oper} {w : World} {k : Nat}
theorem h_nil (h : Q .normal A w) : wpHL P l Q S eff k [] A w := h
theorem h_do {d : Nat} {v : Value} (f : Fr A N L) (he : memN eff k = false) (hd : o.dst = some d) (hN : Nat.blt d N = true) (hw : wantB l L o = some true) (hy : YC P S L o v)
    (h : ∀ A', Fr A' N ((d, v) :: L) → wpHL P l Q S eff (k + 1) rest A' w) : wpHL P l Q S eff k (o :: rest) A w := by
 unfold wpHL
 rw [if_neg (by rw [he]; exact Bool.false_ne_true)]
 refine ⟨v, .inl ⟨f.wanted hw, hy A.eval (fun x u hu => f.ev hu)⟩, ?_⟩
 rw [hd]
 exact h _ (f.put d v (by simpa [Nat.blt_eq] using hN))
theorem h_if {d : Nat} (p : Prop) [Decidable p] (f : Fr A N L) (he : memN eff k = false) (hd : o.dst = some d) (hN : Nat.blt d N = true) (hw : wantB l L o = some true) (hy : YC P S L o (.bool (decide p)))
    (ht : p → ∀ A', Fr A' N ((d, .bool true) :: L) → wpHL P l Q S eff (k + 1) rest A' w) (hf : ¬ p → ∀ A', Fr A' N ((d, .bool false) :: L) → wpHL P l Q S eff (k + 1) rest A' w) : wpHL P l Q S eff k (o :: rest) A w := by
 refine h_do f he hd hN hw hy ?_
 by_cases hp : p
 ·rw [decide_eq_true hp]; exact ht hp
 ·rw [decide_eq_false hp]; exact hf hp
theorem h_no {d : Nat} (f : Fr A N L) (hd : o.dst = some d) (hN : Nat.blt d N = true) (hw : wantB l L o = some false)
    (h : ∀ A', Fr A' N ((d, undef) :: L) → wpHL P l Q S eff (k + 1) rest A' w) : wpHL P l Q S eff k (o :: rest) A w := by
 have hw' := f.wanted hw
 have hk := h _ (f.put d undef (by simpa [Nat.blt_eq] using hN))
 unfold wpHL
 by_cases he : memN eff k = true
 ·rw [if_pos he, if_neg (by rw [hw']; exact Bool.false_ne_true), hd]
  exact hk
 ·rw [if_neg he]
  refine ⟨undef, .inr ⟨hw', rfl⟩, ?_⟩
  rw [hd]
  exact hk
theorem h_call {d : Nat} {g : FuncId} {args : List Value} {R : Ending → World → Prop} (f : Fr A N L) (he : memN eff k = true) (hd : o.dst = some d) (hN : Nat.blt d N = true) (hw : wantB l L o = some true) (hc : IsCall L o g args) (hp : Plain P g)
    (hR : Calls P g args.toArray w R) (h : ∀ e w', R e w' → ∃ v, e = .returned v ∧ S w' ∧ ∀ A', Fr A' N ((d, v) :: L) → wpHL P l Q S eff (k + 1) rest A' w') : wpHL P l Q S eff k (o :: rest) A w := by
 unfold wpHL
 rw [if_pos he, if_pos (f.wanted hw)]
 unfold Oper.wp
 rw [hc.run hp (fun x u hu => f.ev hu) w, Oper.upon_enter]
 refine hR.mono fun e w' he => ?_
 obtain ⟨v, rfl, hS, hk⟩ := h e w' he
 rw [hd]
 exact ⟨hS, hk _ (f.put d v (by simpa [Nat.blt_eq] using hN))⟩
theorem h_callif {d : Nat} {g : FuncId} {args : List Value} (p : Prop) [Decidable p] (f : Fr A N L) (he : memN eff k = true) (hd : o.dst = some d) (hN : Nat.blt d N = true) (hw : wantB l L o = some true) (hc : IsCall L o g args) (hp : Plain P g)
    (hR : Calls P g args.toArray w fun e w' => e = .returned (.bool (decide p)) ∧ Below w.heap.size w w') (hS : ∀ W, Below w.heap.size w W → S W)
    (ht : p → ∀ W, Below w.heap.size w W → ∀ A', Fr A' N ((d, .bool true) :: L) → wpHL P l Q S eff (k + 1) rest A' W) (hf : ¬ p → ∀ W, Below w.heap.size w W → ∀ A', Fr A' N ((d, .bool false) :: L) → wpHL P l Q S eff (k + 1) rest A' W) : wpHL P l Q S eff k (o :: rest) A w := by
 refine h_call f he hd hN hw hc hp hR ?_
 rintro e W ⟨rfl, hb⟩
 refine ⟨_, rfl, hS W hb, ?_⟩
 by_cases hp : p
 ·rw [decide_eq_true hp]; exact ht hp W hb
 ·rw [decide_eq_false hp]; exact hf hp W hb
theorem h_callv {d : Nat} {g : FuncId} {args : List Value} {v : Value} (f : Fr A N L) (he : memN eff k = true) (hd : o.dst = some d) (hN : Nat.blt d N = true) (hw : wantB l L o = some true) (hc : IsCall L o g args) (hp : Plain P g)
    (hR : Calls P g args.toArray w fun e w' => e = .returned v ∧ Below w.heap.size w w') (hS : ∀ W, Below w.heap.size w W → S W)
    (h : ∀ W, Below w.heap.size w W → ∀ A', Fr A' N ((d, v) :: L) → wpHL P l Q S eff (k + 1) rest A' W) : wpHL P l Q S eff k (o :: rest) A w := by
 refine h_call f he hd hN hw hc hp hR ?_
 rintro e W ⟨rfl, hb⟩
 exact ⟨_, rfl, hS W hb, h W hb⟩
end
def over : List Value → List Value → List Value
 | cs, [] => cs
 | [], _ => []
 | _ :: cs, v :: vs => v :: over cs vs
def setL : List Value → Nat → List Value → List Value
 | cs, 0, vs => over cs vs
 | [], _ + 1, _ => []
 | c :: cs, o + 1, vs => c :: setL cs o vs
theorem over_eq : ∀ (cs vs : List Value), vs.length ≤ cs.length → over cs vs = vs ++ cs.drop vs.length
 | cs, [], _ => by cases cs <;> rfl
 | [], v :: vs, h => by simp at h
 | c :: cs, v :: vs, h => by simp [over, over_eq cs vs (by simpa using h)]
theorem setL_eq : ∀ (cs : List Value) (o : Nat) (vs : List Value), o + vs.length ≤ cs.length → setL cs o vs = cs.take o ++ vs ++ cs.drop (o + vs.length)
 | cs, 0, vs, h => by
  have e : setL cs 0 vs = over cs vs := by cases cs <;> rfl
  rw [e, over_eq cs vs (by omega)]; simp
 | [], o + 1, vs, h => by simp at h
 | c :: cs, o + 1, vs, h => by
  have := setL_eq cs o vs (by simp at h; omega)
  rw [setL, this]
  have e : o + 1 + vs.length = (o + vs.length) + 1 := by omega
  rw [e]; simp
theorem row_store {P : Program} {w : World} {b o : Nat} {cs vs : List Value} {t : TypeId} (hg : w.heap[b]? = some (.cells cs.toArray t (0, 0))) (hf : o + vs.length ≤ cs.length) (h1 : ∀ v ∈ vs, v.oneCell' = true) :
    ∃ W, (storeCells ⟨b, o, none⟩ vs 0).run P w = .ok () W ∧ But b w W ∧ W.heap[b]? = some (.cells (setL cs o vs).toArray t (0, 0)) := by
 have := run_storeCells_at (P := P) b o t vs 0 cs.toArray w hg (by simpa using hf) h1
 refine ⟨_, this, ⟨rfl, rfl, rfl, by simp [World.setRow], fun k _ hk => by simp [World.setRow, Array.getElem?_modify, Ne.symm hk]⟩, ?_⟩
 rw [setL_eq _ _ _ hf]
 simp [World.setRow, Array.getElem?_modify, hg]
def szB (P : Program) (t : TypeId) : Option Nat := (P.info? t).map (·.size)
section
variable {P : Program} {A : Act} {N : Nat} {L : List (Nat × Value)} {l rest : List Oper} {o : Oper} {w : World} {C : World → Prop} {Q : Exit → Act → World → Prop}
theorem store_run {t tt : TypeId} {x y : Operand} {b off n : Nat} {v : Value} {cs : List Value} (f : Fr A N L) (ho : o.op = .store t x y) (hx : ev L x = some (.pointer (some ⟨b, off, none⟩))) (hy : ev L y = some v)
    (hrow : w.heap[b]? = some (.cells cs.toArray tt (0, 0))) (hs : szB P t = some n) (hn : v.cells.size = n) (hf : off + n ≤ cs.length) (h1 : (v.cells.toList.all (·.oneCell')) = true) :
    ∃ W, (execOp A.eval o).run P w = .ok .skip W ∧ But b w W ∧ W.heap[b]? = some (.cells (setL cs off v.cells.toList).toArray tt (0, 0)) := by
 unfold szB at hs
 simp only [Option.map_eq_some_iff] at hs
 obtain ⟨i, hi, rfl⟩ := hs
 obtain ⟨W, hr, hb, hw⟩ := row_store (P := P) (vs := v.cells.toList) (o := off) hrow (Nat.le_trans (Nat.add_le_add_left (Nat.le_of_eq (by simpa using hn)) _) hf) (fun u hu => List.all_eq_true.1 h1 u hu)
 have hsv := run_storeVar' (a := ⟨b, off, none⟩) hi hn hr
 have e1 := f.ev hx
 have e2 := f.ev hy
 refine ⟨W, ?_, hb, hw⟩
 obtain ⟨ρ, hρ⟩ : ∃ ρ, A.eval = ρ := ⟨_, rfl⟩
 rw [hρ] at e1 e2 ⊢
 obtain ⟨s, hs⟩ : ∃ s, storeVar t ⟨b, off, none⟩ v = s := ⟨_, rfl⟩
 rw [hs] at hsv
 unfold execOp
 rw [ho]
 simp only
 unfold Instr.storeAt
 rw [e1, e2]
 show (do storeVar t ⟨b, off, none⟩ v; pure Next.skip : Sem Next).run P w = _
 rw [hs]
 simp [hsv, go_sem]
theorem l_store {t tt : TypeId} {x y : Operand} {b off n : Nat} {v : Value} {cs : List Value} (f : Fr A N L) (hd : o.dst = none) (hw : wantB l L o = some true) (ho : o.op = .store t x y) (hx : ev L x = some (.pointer (some ⟨b, off, none⟩))) (hy : ev L y = some v)
    (hrow : w.heap[b]? = some (.cells cs.toArray tt (0, 0))) (hs : szB P t = some n) (hn : v.cells.size = n) (hf : off + n ≤ cs.length) (h1 : (v.cells.toList.all (·.oneCell')) = true)
    (h : ∀ W, But b w W → W.heap[b]? = some (.cells (setL cs off v.cells.toList).toArray tt (0, 0)) → wpList P l.toArray Q rest A W) : wpList P l.toArray Q (o :: rest) A w := by
 obtain ⟨W, hr, hb, hw'⟩ := store_run (P := P) f ho hx hy hrow hs hn hf h1
 unfold wpList
 rw [if_pos (f.wanted hw)]
 left
 unfold Oper.wp
 rw [hr, Oper.upon_skip, hd]
 exact h W hb hw'
theorem h_store {S : World → Prop} {eff : List Nat} {k : Nat} {t tt : TypeId} {x y : Operand} {b off n : Nat} {v : Value} {cs : List Value} (f : Fr A N L) (he : memN eff k = true) (hd : o.dst = none) (hw : wantB l L o = some true) (ho : o.op = .store t x y) (hx : ev L x = some (.pointer (some ⟨b, off, none⟩))) (hy : ev L y = some v)
    (hrow : w.heap[b]? = some (.cells cs.toArray tt (0, 0))) (hs : szB P t = some n) (hn : v.cells.size = n) (hf : off + n ≤ cs.length) (h1 : (v.cells.toList.all (·.oneCell')) = true) (hS : ∀ W, But b w W → W.heap[b]? = some (.cells (setL cs off v.cells.toList).toArray tt (0, 0)) → S W)
    (h : ∀ W, But b w W → W.heap[b]? = some (.cells (setL cs off v.cells.toList).toArray tt (0, 0)) → wpHL P l Q S eff (k + 1) rest A W) : wpHL P l Q S eff k (o :: rest) A w := by
 obtain ⟨W, hr, hb, hw'⟩ := store_run (P := P) f ho hx hy hrow hs hn hf h1
 unfold wpHL
 rw [if_pos he, if_pos (f.wanted hw)]
 unfold Oper.wp
 rw [hr, Oper.upon_skip, hd]
 exact ⟨hS W hb hw', h W hb hw'⟩
theorem storeR_run {t : TypeId} {x y : Operand} {p : Addr} {v : Value} {R : World → Prop} (f : Fr A N L) (ho : o.op = .store t x y) (hx : ev L x = some (.pointer (some p))) (hy : ev L y = some v)
    (hr : ∃ W, (storeVar t p v).run P w = .ok () W ∧ R W) : ∃ W, (execOp A.eval o).run P w = .ok .skip W ∧ R W := by
 obtain ⟨W, hsv, hR⟩ := hr
 have e1 := f.ev hx
 have e2 := f.ev hy
 refine ⟨W, ?_, hR⟩
 obtain ⟨ρ, hρ⟩ : ∃ ρ, A.eval = ρ := ⟨_, rfl⟩
 rw [hρ] at e1 e2 ⊢
 obtain ⟨s, hs⟩ : ∃ s, storeVar t p v = s := ⟨_, rfl⟩
 rw [hs] at hsv
 unfold execOp
 rw [ho]
 simp only
 unfold Instr.storeAt
 rw [e1, e2]
 show (do storeVar t p v; pure Next.skip : Sem Next).run P w = _
 rw [hs]
 simp [hsv, go_sem]
theorem l_opR {d : Nat} {R : Value → World → Prop} (f : Fr A N L) (hd : o.dst = some d) (hN : Nat.blt d N = true) (hw : wantB l L o = some true) (hr : ∃ v W, (execOp A.eval o).run P w = .ok (.value v) W ∧ R v W)
    (h : ∀ v W, R v W → ∀ A', Fr A' N ((d, v) :: L) → wpList P l.toArray Q rest A' W) : wpList P l.toArray Q (o :: rest) A w := by
 obtain ⟨v, W, hrun, hR⟩ := hr
 unfold wpList
 rw [if_pos (f.wanted hw)]
 left
 unfold Oper.wp
 rw [hrun, Oper.upon_value, hd]
 exact h v W hR _ (f.put d v (by simpa [Nat.blt_eq] using hN))
theorem append_exec {s x : Operand} {t tn : TypeId} {vs vx v : Value} {W : World} (f : Fr A N L) (ho : o.op = .call ⟨.builtin .append, #[s, x], #[t, tn]⟩) (hs : ev L s = some vs) (hx : ev L x = some vx)
    (hr : (Builtin.append_ #[t, tn] o.type #[vs, vx]).run P w = .ok v W) : (execOp A.eval o).run P w = .ok (.value v) W := by
 have e1 := f.ev hs
 have e2 := f.ev hx
 unfold execOp
 simp only [ho, resolve, invoke, builtin, Sem.run_bind, Sem.run_pure, Result.andThen_ok, List.map_toArray, List.map_cons, List.map_nil, e1, e2, hr]
theorem bs_exec {t : TypeId} {n : Nat} {ps : List (Nat × Operand)} {vs : List (Nat × Value)} {v : Value} {W : World} (f : Fr A N L) (ho : o.op = .buildSlice t n ps.toArray) (hp : evp L ps = some vs)
    (hr : (Instr.buildSlice t n vs.toArray).run P w = .ok v W) : (execOp A.eval o).run P w = .ok (.value v) W := by
 have e := evp_map (fun x u hu => f.ev hu) hp
 have e' : ps.toArray.map (fun (i, x) => (i, A.eval x)) = vs.toArray := by simpa using congrArg List.toArray e
 obtain ⟨s, hs⟩ : ∃ s, Instr.buildSlice t n vs.toArray = s := ⟨_, rfl⟩
 rw [hs] at hr
 unfold execOp
 rw [ho]
 simp only
 rw [e', hs]
 simp [hr]
theorem l_storeR {t : TypeId} {x y : Operand} {p : Addr} {v : Value} {R : World → Prop} (f : Fr A N L) (hd : o.dst = none) (hw : wantB l L o = some true) (ho : o.op = .store t x y) (hx : ev L x = some (.pointer (some p))) (hy : ev L y = some v)
    (hr : ∃ W, (storeVar t p v).run P w = .ok () W ∧ R W) (h : ∀ W, R W → wpList P l.toArray Q rest A W) : wpList P l.toArray Q (o :: rest) A w := by
 obtain ⟨W, hrun, hR⟩ := storeR_run (P := P) f ho hx hy hr
 unfold wpList
 rw [if_pos (f.wanted hw)]
 left
 unfold Oper.wp
 rw [hrun, Oper.upon_skip, hd]
 exact h W hR
theorem h_storeR {S : World → Prop} {eff : List Nat} {k : Nat} {t : TypeId} {x y : Operand} {p : Addr} {v : Value} {R : World → Prop} (f : Fr A N L) (he : memN eff k = true) (hd : o.dst = none) (hw : wantB l L o = some true) (ho : o.op = .store t x y) (hx : ev L x = some (.pointer (some p))) (hy : ev L y = some v)
    (hr : ∃ W, (storeVar t p v).run P w = .ok () W ∧ R W) (hS : ∀ W, R W → S W) (h : ∀ W, R W → wpHL P l Q S eff (k + 1) rest A W) : wpHL P l Q S eff k (o :: rest) A w := by
 obtain ⟨W, hrun, hR⟩ := storeR_run (P := P) f ho hx hy hr
 unfold wpHL
 rw [if_pos he, if_pos (f.wanted hw)]
 unfold Oper.wp
 rw [hrun, Oper.upon_skip, hd]
 exact ⟨hS W hR, h W hR⟩
theorem rowl {b j : Nat} {cs : List Value} {t : TypeId} {v : Value} (h : ∀ wx, C wx → wx.heap[b]? = some (.cells cs.toArray t (0, 0))) (hj : cs[j]? = some v) : StC C ⟨b, j, none⟩ v := fun wx hx => by
 rw [cell_of_row wx b j cs.toArray t (0, 0) (h wx hx)]; simpa using hj
theorem rowq {b : Nat} {cs : List Value} {t : TypeId} (h : w.heap[b]? = some (.cells cs.toArray t (0, 0))) : ∀ wx, ClB w wx → wx.heap[b]? = some (.cells cs.toArray t (0, 0)) := fun _ hx => row_next h hx
def matchL : List Value → List Value → Prop
 | _, [] => True
 | [], _ :: _ => False
 | c :: cs, v :: vs => c = v ∧ matchL cs vs
theorem rowls {b : Nat} {cs : List Value} {t : TypeId} (h : ∀ wx, C wx → wx.heap[b]? = some (.cells cs.toArray t (0, 0))) : ∀ (vs : List Value) (o : Nat), matchL (cs.drop o) vs → StsC C b o vs
 | [], _, _ => trivial
 | v :: vs, o, hm => by
  cases hd : cs.drop o with
  | nil => rw [hd] at hm; exact hm.elim
  | cons c r =>
   rw [hd] at hm
   have h0 : cs[o]? = some c := by
    have := congrArg (fun l => l[0]?) hd
    simpa using this
   refine ⟨rowl h (by rw [h0, hm.1]), rowls h vs (o + 1) ?_⟩
   have : cs.drop (o + 1) = r := by
    have := congrArg List.tail hd
    simpa using this
   rw [this]; exact hm.2
theorem But.row {b c : Nat} {w w' : World} {x : Obj} (h : But b w w') (hr : w.heap[c]? = some x) (hne : c ≠ b) : w'.heap[c]? = some x := by
 rw [h.block c (Array.getElem?_eq_some_iff.1 hr).1 hne]; exact hr
theorem row_lt {w : World} {c : Nat} {x : Obj} (hr : w.heap[c]? = some x) : c < w.heap.size := (Array.getElem?_eq_some_iff.1 hr).1
theorem Below.thenBut {b : Nat} {w0 w w' : World} (h : Below w0.heap.size w0 w) (hb : But b w w') (hle : w0.heap.size ≤ b) : Below w0.heap.size w0 w' := h.trans (hb.below hle h.size)
theorem y_nil {x : Operand} {p : Addr} (ho : o.op = .nilCheck x) (hx : ev L x = some (.pointer (some p))) : YC P C L o (.pointer (some p)) := by
 intro ρ hρ wx _
 simp [execOp, ho, hρ _ _ hx, go_sem]
theorem y_ext {x : Operand} {i : Nat} {vs : Array Value} {v : Value} (ho : o.op = .extract x i) (hx : ev L x = some (.tuple vs)) (hv : vs[i]? = some v) : YC P C L o v := by
 intro ρ hρ wx _
 simp [execOp, ho, hρ _ _ hx, Instr.extract, hv, go_sem]
theorem cell_run {t : TypeId} {b n : Nat} {cs : List Value} {tt : TypeId} (ht : isAggB P t = some (some n)) (hrow : w.heap[b]? = some (.cells cs.toArray tt (0, 0))) (hn : cs.length = n) : (loadVar t ⟨b, 0, none⟩).run P w = .ok (.agg cs.toArray) w := by
 have hcx := load_row (P := P) hrow (n := n) (by simpa using hn)
 unfold isAggB at ht
 cases hu : P.underlying t with
 | none => rw [hu] at ht; cases ht
 | some d =>
  rw [hu] at ht
  cases d with
  | struct fs =>
   simp only [Option.map_eq_some_iff, Option.some.injEq] at ht
   obtain ⟨inf, hi, e⟩ := ht
   subst e
   simp [loadVar, isAgg, run_under hu, run_size hi, loadCells, hcx, go_sem]
  | array m e =>
   simp only [Option.map_eq_some_iff, Option.some.injEq] at ht
   obtain ⟨inf, hi, e⟩ := ht
   subst e
   simp [loadVar, isAgg, run_under hu, run_size hi, loadCells, hcx, go_sem]
  | _ => simp at ht
theorem x_retc {fn : Func} {R : Ending → World → Prop} {t : Tmp} {ty tt : TypeId} {b n : Nat} {cs : List Value} (f : Fr A N L) (hr : fn.results = #[.cell t ty]) (hv : look L t = some (.pointer (some ⟨b, 0, none⟩))) (ht : isAggB P ty = some (some n)) (hrow : w.heap[b]? = some (.cells cs.toArray tt (0, 0))) (hn : cs.length = n)
    (h : R (.returned (.agg cs.toArray)) w) : bodyPost P fn R .ret A w := by
 refine ⟨f.defs, _, ?_, h⟩
 have e := f.at_ t _ hv
 rw [Array.getD_eq_getD_getElem?] at e
 have hl := cell_run ht hrow hn
 obtain ⟨s, hs⟩ : ∃ s, loadVar ty ⟨b, 0, none⟩ = s := ⟨_, rfl⟩
 rw [hs] at hl
 simp [results, hr, e, asAddr, hs, hl]
theorem x_retc1 {fn : Func} {R : Ending → World → Prop} {t u : Tmp} {ty tt : TypeId} {b n : Nat} {cs : List Value} {v : Value} (f : Fr A N L) (hr : fn.results = #[.cell t ty, .tmp u]) (hv : look L t = some (.pointer (some ⟨b, 0, none⟩))) (hu : look L u = some v) (ht : isAggB P ty = some (some n)) (hrow : w.heap[b]? = some (.cells cs.toArray tt (0, 0))) (hn : cs.length = n)
    (h : R (.returned (.tuple #[.agg cs.toArray, v])) w) : bodyPost P fn R .ret A w := by
 refine ⟨f.defs, _, ?_, h⟩
 have e := f.at_ t _ hv
 rw [Array.getD_eq_getD_getElem?] at e
 have e' := f.at_ u _ hu
 rw [Array.getD_eq_getD_getElem?] at e'
 have hl := cell_run ht hrow hn
 obtain ⟨s, hs⟩ : ∃ s, loadVar ty ⟨b, 0, none⟩ = s := ⟨_, rfl⟩
 rw [hs] at hl
 simp [results, hr, e, e', asAddr, hs, hl]
end
theorem but_setRow (w : World) (g : Nat) (cs : Array Value) : But g w (w.setRow g cs) :=
 ⟨rfl, rfl, rfl, by simp [World.setRow], fun k _ hne => setRow_other w g k cs (by omega)⟩
theorem run_copy_row_k {P : Program} (w : World) (dT sT ty elem : TypeId) (k g o dLen dCap : Nat) (a : Addr) (sLen sCap : Nat) (cur : Array Value) (t : TypeId) (cs : List Value)
    (hu : P.underlying dT = some (.slice elem)) (hs : (P.info? elem).map (·.size) = some k)
    (hg : w.heap[g]? = some (.cells cur t (0, 0))) (hn : cs.length = Nat.min sLen dLen * k)
    (hsrc : ∀ j v, cs[j]? = some v → w.cell? (a.add j) = some v) (hfit : o + cs.length ≤ cur.size) (h1 : ∀ v ∈ cs, v.oneCell' = true) :
    (Builtin.copy_ #[dT, sT] ty #[.slice (some ⟨g, o, none⟩) dLen dCap, .slice (some a) sLen sCap]).run P w =
     .ok (goInt (Nat.min sLen dLen)) (w.setRow g (cur.toList.take o ++ cs ++ cur.toList.drop (o + cs.length)).toArray) := by
 have hl := run_loadCells_list (P := P) w a cs hsrc
 have hst := run_storeCells_at P g o t cs 0 cur w hg (by simpa using hfit) h1
 cases hq : P.info? elem with
 | none => simp [hq] at hs
 | some i =>
  have hi : i.size = k := by simpa [hq] using hs
  simp [Builtin.copy_, run_underlying hu, Builtin.lenOf, Builtin.firstCells, sizeOf, typeInfo, hq, hi, ← hn, hl, hst]
theorem run_copy_none_k {P : Program} (w : World) (dT sT ty elem : TypeId) (k : Nat) (d a : Option Addr) (dLen dCap sLen sCap : Nat) (hu : P.underlying dT = some (.slice elem)) (hs : (P.info? elem).map (·.size) = some k) (hn : Nat.min sLen dLen = 0) :
    (Builtin.copy_ #[dT, sT] ty #[.slice d dLen dCap, .slice a sLen sCap]).run P w = .ok (goInt 0) w := by
 cases hq : P.info? elem with
 | none => simp [hq] at hs
 | some i =>
  cases d <;> cases a <;> simp [Builtin.copy_, run_underlying hu, Builtin.lenOf, Builtin.firstCells, sizeOf, typeInfo, hq, hn, storeCells, loadCells, loadCellsFrom]
theorem wpList_copy_k {P : Program} {w : World} {ops : Array Oper} {rest : List Oper} {o : Oper} {a : Act} {Q : Exit → Act → World → Prop} (hgd : o.guard = none) (d s : Operand) (dT sT : TypeId)
    (ho : o.op = .call { callee := .builtin .copy, args := #[d, s], argTypes := #[dT, sT] }) (elem : TypeId) (k : Nat) (hu : P.underlying dT = some (.slice elem)) (hsz : (P.info? elem).map (·.size) = some k)
    (dp sp : Option Addr) (dLen dCap sLen sCap : Nat) (hd : a.eval d = .slice dp dLen dCap) (hs : a.eval s = .slice sp sLen sCap)
    (g off : Nat) (cur : List Value) (t : TypeId) (hg : w.heap[g]? = some (.cells cur.toArray t (0, 0))) (cs : List Value) (m : Nat) (hm : Nat.min sLen dLen = m) (hn : cs.length = m * k)
    (hpos : 0 < m → dp = some ⟨g, off, none⟩ ∧ ∃ ad, sp = some ad ∧ ∀ j v, cs[j]? = some v → w.cell? (ad.add j) = some v)
    (hfit : off + cs.length ≤ cur.length) (h1 : ∀ v ∈ cs, v.oneCell' = true)
    (h : ∀ w', Hid (w'.heap[g]? = some (.cells (splice cur off cs).toArray t (0, 0))) → But g w w' → wpList P ops Q rest (a.put o.dst (goInt m)) w') :
    wpList P ops Q (o :: rest) a w := by
 by_cases h0 : m = 0
 ·subst h0
  obtain rfl : cs = [] := List.eq_nil_of_length_eq_zero (by simpa using hn)
  refine wpList_plain hgd fun K hK => ?_
  have hrun := run_copy_none_k (P := P) w dT sT o.type elem k dp sp dLen dCap sLen sCap hu hsz hm
  unfold Oper.wp
  simp [execOp, ho, resolve, invoke, builtin, hd, hs, hrun, Result.andThen]
  exact hK _ _ (h w (show _ = _ by simpa [splice] using hg) (But.refl _ _))
 ·obtain ⟨rfl, ad, rfl, hsrc⟩ := hpos (by omega)
  refine wpList_plain hgd fun K hK => ?_
  have hrun := run_copy_row_k (P := P) w dT sT o.type elem k g off dLen dCap ad sLen sCap cur.toArray t cs hu hsz hg (by rw [hm]; exact hn) hsrc (by simpa using hfit) h1
  rw [hm] at hrun
  unfold Oper.wp
  simp [execOp, ho, resolve, invoke, builtin, hd, hs, hrun, Result.andThen]
  refine hK _ _ (h _ (show _ = _ by simpa [splice] using setRow_heap w g _ _ t _ hg) (by simpa using but_setRow w g _))
section
variable {P : Program} {A : Act} {N : Nat} {L : List (Nat × Value)} {l rest : List Oper} {o : Oper} {w : World} {C : World → Prop} {Q : Exit → Act → World → Prop}
def Makes (P : Program) (t e : TypeId) (n k : Nat) : Prop := ∃ M : Array Value, M.size = n * k ∧ ∀ W : World, (Instr.makeSlice t (.int .i64 (n : Int)) (.int .i64 (n : Int))).run P W = .ok (.slice (some ⟨W.heap.size, 0, none⟩) n n) (W.alloc (.cells M e))
theorem make_exec {t : TypeId} {x y : Operand} {n : Nat} {v : Value} {W : World} (f : Fr A N L) (ho : o.op = .makeSlice t x y) (hx : ev L x = some (.int .i64 (n : Nat))) (hy : ev L y = some (.int .i64 (n : Nat)))
    (hr : (Instr.makeSlice t (.int .i64 (n : Int)) (.int .i64 (n : Int))).run P w = .ok v W) : (execOp A.eval o).run P w = .ok (.value v) W := by
 have e1 := f.ev hx
 have e2 := f.ev hy
 obtain ⟨ρ, hρ⟩ : ∃ ρ, A.eval = ρ := ⟨_, rfl⟩
 rw [hρ] at e1 e2 ⊢
 unfold execOp
 rw [ho]
 simp only [e1, e2]
 simp [hr]
theorem l_make {d : Nat} {t e : TypeId} {x y : Operand} {n k : Nat} (f : Fr A N L) (hd : o.dst = some d) (hN : Nat.blt d N = true) (hw : wantB l L o = some true) (ho : o.op = .makeSlice t x y) (hx : ev L x = some (.int .i64 (n : Nat))) (hy : ev L y = some (.int .i64 (n : Nat))) (hM : Makes P t e n k)
    (h : ∀ (b : Nat) (W : World) (M : List Value), w.heap.size = b → Below w.heap.size w W → M.length = n * k → W.heap[b]? = some (.cells M.toArray e (0, 0)) → ∀ A', Fr A' N ((d, .slice (some ⟨b, 0, none⟩) n n) :: L) → wpList P l.toArray Q rest A' W) : wpList P l.toArray Q (o :: rest) A w := by
 obtain ⟨M, hs, hM⟩ := hM
 refine l_opR (R := fun v W => v = .slice (some ⟨w.heap.size, 0, none⟩) n n ∧ W = w.alloc (.cells M e)) f hd hN hw ⟨_, _, make_exec f ho hx hy (hM w), rfl, rfl⟩ ?_
 rintro v W ⟨rfl, rfl⟩ A' f'
 exact h w.heap.size _ M.toList rfl ((Below.refl _ _).alloc (Nat.le_refl _) _) (by simpa using hs) (by rw [Array.toArray_toList]; exact heap_alloc_new _ _) A' f'
theorem copy_exec {s x : Operand} {t tn : TypeId} {vs vx v : Value} {W : World} (f : Fr A N L) (ho : o.op = .call ⟨.builtin .copy, #[s, x], #[t, tn]⟩) (hs : ev L s = some vs) (hx : ev L x = some vx)
    (hr : (Builtin.copy_ #[t, tn] o.type #[vs, vx]).run P w = .ok v W) : (execOp A.eval o).run P w = .ok (.value v) W := by
 have e1 := f.ev hs
 have e2 := f.ev hx
 unfold execOp
 simp only [ho, resolve, invoke, builtin, Sem.run_bind, Sem.run_pure, Result.andThen_ok, List.map_toArray, List.map_cons, List.map_nil, e1, e2, hr]
theorem copy_run {dT sT ty elem t : TypeId} {k g n cap sc : Nat} {sp : Option Addr} {M cs : List Value} (hu : P.underlying dT = some (.slice elem)) (hz : szB P elem = some k) (hg : w.heap[g]? = some (.cells M.toArray t (0, 0))) (hM : M.length = n * k) (hn : cs.length = n * k)
    (hsrc : 0 < n → ∃ ad, sp = some ad ∧ ∀ j v, cs[j]? = some v → w.cell? (ad.add j) = some v) (h1 : ∀ v ∈ cs, v.oneCell' = true) :
    ∃ W, (Builtin.copy_ #[dT, sT] ty #[.slice (some ⟨g, 0, none⟩) n cap, .slice sp n sc]).run P w = .ok (goInt n) W ∧ But g w W ∧ W.heap[g]? = some (.cells cs.toArray t (0, 0)) := by
 by_cases h0 : n = 0
 ·subst h0
  obtain rfl : cs = [] := List.eq_nil_of_length_eq_zero (by simpa using hn)
  obtain rfl : M = [] := List.eq_nil_of_length_eq_zero (by simpa using hM)
  exact ⟨w, run_copy_none_k w dT sT ty elem k _ _ 0 cap 0 sc hu hz rfl, But.refl _ _, hg⟩
 ·obtain ⟨ad, rfl, hs⟩ := hsrc (by omega)
  have hmin : Nat.min n n = n := Nat.min_self n
  have hrun := run_copy_row_k (P := P) w dT sT ty elem k g 0 n cap ad n sc M.toArray t cs hu hz hg (by rw [hmin]; exact hn) hs (by simp; omega) h1
  rw [hmin] at hrun
  refine ⟨_, hrun, but_setRow w g _, ?_⟩
  rw [setRow_heap w g _ _ t _ hg]
  simp [show M.length ≤ cs.length by omega]
theorem beq_bytes (a b : ByteArray) : (a.toList == b.toList) = decide (a = b) := by
 rw [ByteArray.toList_eq, ByteArray.toList_eq]
 by_cases h : a = b
 ·subst h; simp
 ·have : a.data.toList ≠ b.data.toList := fun e => h (by
   cases a; cases b
   congr 1
   exact Array.toList_inj.1 e)
  rw [decide_eq_false h]
  simpa using fun e => this (congrArg Array.toList e)
theorem y_neqS {t u : TypeId} {x y : Operand} {a b : ByteArray} (ho : o.op = .binOp .neq t x y u) (hx : ev L x = some (.string a)) (hy : ev L y = some (.string b)) : YC P C L o (.bool (decide (a ≠ b))) := by
 intro ρ hρ wx _
 have e : (!(a.toList == b.toList)) = decide (a ≠ b) := by rw [beq_bytes, decide_not]
 simp [execOp, ho, hρ _ _ hx, hρ _ _ hy, eqGuard, binOp, Op.stringOp, e, go_sem]
theorem y_eqlS {t u : TypeId} {x y : Operand} {a b : ByteArray} (ho : o.op = .binOp .eql t x y u) (hx : ev L x = some (.string a)) (hy : ev L y = some (.string b)) : YC P C L o (.bool (decide (a = b))) := by
 intro ρ hρ wx _
 simp [execOp, ho, hρ _ _ hx, hρ _ _ hy, eqGuard, binOp, Op.stringOp, beq_bytes, go_sem]
end
theorem strs_src {w : World} {ao : Option Addr} {n : Nat} {l : List ByteArray} (h : Strs w ao n l) (h0 : 0 < n) : ∃ ad, ao = some ad ∧ ∀ j v, (svals l)[j]? = some v → w.cell? (ad.add j) = some v := by
 obtain ⟨b, off, rfl, _⟩ := h.at_ 0 (by have := h.len; omega)
 refine ⟨_, rfl, fun j v hj => ?_⟩
 have hlt : j < l.length := by have := (List.getElem?_eq_some_iff.1 hj).1; simpa [svals] using this
 obtain ⟨b', off', e, c⟩ := h.at_ j hlt
 cases e
 have hadd : (⟨b, off, none⟩ : Addr).add j = ⟨b, off + j, none⟩ := by unfold Addr.add; split <;> simp_all
 rw [hadd, c]
 have : (svals l)[j]? = some (.string (l.getD j default)) := by simp [svals, List.getD_eq_getElem?_getD, hlt]
 rw [← hj, this]
theorem svals_one (l : List ByteArray) : ∀ v ∈ svals l, v.oneCell' = true := by
 intro v hv
 obtain ⟨s, _, rfl⟩ := List.mem_map.1 hv
 rfl
end Go.Proofs.Ytnijjpakpphhhaa.Kit
namespace Go.Proofs.Ytnijjpakpphhhaa
open Go Go.RowKit Go.Proofs.Ytnijjpakpphhhaa.Kit
def tF : List (Nat × Nat) := [(112, 0), (113, 1), (114, 2), (115, 3), (128, 0), (129, 1), (130, 2), (131, 3), (208, 0), (209, 1), (224, 0), (225, 1), (288, 0), (304, 0), (416, 0), (417, 1), (418, 2), (419, 3), (420, 4), (432, 0), (433, 1), (434, 2), (435, 3), (436, 4), (464, 0), (465, 1), (466, 6), (480, 0), (481, 1), (482, 6), (704, 0), (705, 1), (706, 2), (707, 3), (708, 4), (709, 5), (720, 0), (721, 1), (722, 2), (723, 3), (724, 4), (725, 5), (768, 0), (769, 1), (770, 2), (784, 0), (785, 1), (786, 2), (1104, 0), (1105, 1), (1106, 2), (1107, 3), (1120, 0), (1121, 1), (1122, 2), (1123, 3), (1136, 0), (1137, 1), (1138, 2), (1152, 0), (1153, 1), (1154, 2), (1216, 0), (1217, 1), (1218, 2), (1219, 3), (1232, 0), (1233, 1), (1234, 2), (1235, 3), (1904, 0), (1905, 1), (1906, 2), (1907, 3), (1920, 0), (1921, 1), (1922, 2), (1923, 3), (2112, 0), (2113, 1), (2114, 2), (2115, 3), (2116, 4), (2117, 5), (2118, 6), (2119, 7), (2120, 8), (2121, 9), (2122, 10), (2128, 0), (2129, 1), (2130, 2), (2131, 3), (2132, 4), (2133, 5), (2134, 6), (2135, 7), (2136, 8), (2137, 9), (2138, 10)]
def tE : List (Nat × Nat) := [(22, 1), (23, 4), (24, 4), (25, 3), (28, 6), (42, 1), (43, 3), (102, 1)]
def tA : List (Nat × Nat) := [(1, 0), (2, 0), (3, 0), (4, 0), (5, 0), (6, 0), (7, 5), (8, 5), (9, 0), (10, 0), (11, 0), (12, 0), (13, 3), (14, 3), (15, 0), (16, 0), (17, 0), (18, 2), (19, 2), (21, 0), (22, 0), (23, 0), (24, 0), (25, 0), (26, 6), (27, 6), (28, 0), (29, 8), (30, 8), (31, 0), (32, 0), (33, 0), (34, 0), (35, 0), (37, 0), (38, 0), (39, 0), (40, 0), (41, 0), (42, 0), (43, 0), (44, 7), (45, 7), (46, 0), (47, 0), (48, 4), (49, 4), (50, 0), (51, 0), (52, 0), (53, 0), (54, 0), (55, 0), (57, 0), (58, 0), (59, 0), (60, 0), (61, 0), (62, 0), (63, 0), (64, 0), (66, 0), (67, 0), (68, 0), (69, 5), (70, 5), (71, 4), (72, 4), (73, 0), (74, 0), (75, 0), (76, 5), (77, 5), (78, 0), (79, 0), (80, 0), (81, 0), (82, 0), (83, 0), (84, 0), (85, 0), (86, 0), (87, 0), (88, 0), (90, 0), (91, 0), (92, 0), (93, 0), (94, 257), (95, 257), (96, 0), (97, 0), (99, 0), (100, 0), (101, 0), (102, 0), (103, 0), (104, 0), (105, 0), (106, 0), (107, 0), (108, 0), (109, 0), (110, 0), (111, 0), (112, 0), (113, 0), (114, 0), (115, 0), (116, 0), (117, 0), (118, 0), (119, 5), (120, 5), (121, 1), (122, 1), (123, 1), (124, 0), (125, 0), (126, 0), (127, 0), (128, 0), (129, 0), (130, 0), (131, 0), (132, 12), (133, 12)]
def tS : List (Nat × Nat) := [(1, 1), (2, 1), (3, 1), (4, 1), (5, 1), (6, 1), (7, 4), (8, 4), (9, 1), (10, 1), (11, 1), (12, 1), (13, 2), (14, 2), (15, 1), (16, 1), (17, 1), (18, 1), (19, 1), (21, 1), (22, 1), (23, 1), (24, 1), (25, 1), (26, 5), (27, 5), (28, 1), (29, 7), (30, 7), (31, 1), (32, 1), (33, 1), (34, 1), (35, 1), (37, 1), (38, 1), (39, 1), (40, 1), (41, 1), (42, 1), (43, 1), (44, 6), (45, 6), (46, 1), (47, 1), (48, 3), (49, 3), (50, 1), (51, 1), (52, 1), (53, 1), (54, 1), (55, 1), (57, 1), (58, 1), (59, 1), (60, 1), (61, 1), (62, 1), (63, 1), (64, 1), (66, 1), (67, 1), (68, 1), (69, 4), (70, 4), (71, 3), (72, 3), (73, 1), (74, 1), (75, 1), (76, 4), (77, 4), (78, 1), (79, 1), (80, 1), (81, 1), (82, 1), (83, 1), (84, 1), (85, 1), (86, 1), (87, 1), (88, 1), (90, 1), (91, 1), (92, 1), (93, 1), (94, 256), (95, 256), (96, 1), (97, 1), (99, 1), (100, 1), (101, 1), (102, 1), (103, 1), (104, 1), (105, 1), (106, 1), (107, 1), (108, 1), (109, 1), (110, 1), (111, 1), (112, 1), (113, 1), (114, 1), (115, 1), (116, 1), (117, 1), (118, 1), (119, 4), (120, 4), (121, 0), (122, 0), (123, 0), (124, 1), (125, 1), (126, 1), (127, 1), (128, 1), (129, 1), (130, 1), (131, 1), (132, 11), (133, 11)]
def tP : List Nat := [3, 4, 5, 6, 7, 8, 9, 10, 11, 12, 13, 14, 15, 16, 17, 18, 19, 20, 21, 22, 23, 24, 25, 26, 27, 28, 29, 30, 31, 32, 33, 34, 35, 36, 37, 38, 39, 40, 41, 42, 43, 44, 45, 46, 47, 48, 49, 50, 51, 52, 53, 54, 55, 56, 57, 58, 59, 60, 61, 62, 63, 64, 65, 66, 67, 68, 69, 70, 71, 72, 73, 74, 75, 76, 77, 78, 79, 80, 81, 82, 83, 84, 85, 86, 87, 88, 89, 90, 91, 92, 93, 94, 95, 96, 97, 98, 99]
theorem tF_all : (tF.all fun p => fOff Try.prog (p.1 / 16) (p.1 % 16) == some p.2) = true := by kernel_rfl
theorem tE_all : (tE.all fun p => elSz Try.prog p.1 == some p.2) = true := by kernel_rfl
def aggN : Nat → Option Nat
 | 0 => none
 | n + 1 => some n
theorem tA_all : (tA.all fun p => isAggB Try.prog p.1 == some (aggN p.2)) = true := by kernel_rfl
theorem tP_all : (tP.all fun g => plainB Try.prog g) = true := by kernel_rfl
theorem fo {s i k : Nat} (h : lookN tF (s * 16 + i) = some k) (hi : Nat.blt i 16 = true := by rfl) : fOff Try.prog s i = some k := by
 have := List.all_eq_true.1 tF_all _ (lookN_mem h)
 have hi' : i < 16 := by simpa [Nat.blt_eq] using hi
 rw [show (s * 16 + i) / 16 = s by omega, show (s * 16 + i) % 16 = i by omega] at this
 simpa using this
theorem es {t k : Nat} (h : lookN tE t = some k) : elSz Try.prog t = some k := by
 simpa using List.all_eq_true.1 tE_all _ (lookN_mem h)
theorem ag {t k : Nat} {r : Option Nat} (h : lookN tA t = some k) (hr : aggN k = r := by rfl) : isAggB Try.prog t = some r := by
 subst hr
 simpa using List.all_eq_true.1 tA_all _ (lookN_mem h)
theorem sl {t k : Nat} (h : lookN tE t = some k) : isSl Try.prog t = true := by
 have := es h
 unfold elSz at this
 unfold isSl
 cases hu : Try.prog.underlying t with
 | none => rw [hu] at this; cases this
 | some d =>
  rw [hu] at this
  cases d <;> first | rfl | cases this
theorem tS_all : (tS.all fun p => szB Try.prog p.1 == some p.2) = true := by kernel_rfl
theorem sz {t k : Nat} (h : lookN tS t = some k) : szB Try.prog t = some k := by
 simpa using List.all_eq_true.1 tS_all _ (lookN_mem h)
theorem pl {g : Nat} (h : memN tP g = true) : Plain Try.prog g := Plain.of (List.all_eq_true.1 tP_all _ (memN_mem h))
end Go.Proofs.Ytnijjpakpphhhaa
namespace Go.Proofs.Ytnijjpakpphhhaa.Kit
def pw (n : Int) : Int := ((2 ^ n.toNat : Nat) : Int)
theorem pw_0 : pw 0 = 1 := rfl
theorem pw_1 : pw 1 = 2 := rfl
theorem pw_2 : pw 2 = 4 := rfl
theorem pw_3 : pw 3 = 8 := rfl
theorem pw_4 : pw 4 = 16 := rfl
theorem pw_nat (n : Nat) : pw (n : Int) = ((2 ^ n : Nat) : Int) := rfl
theorem pw_pos (n : Int) : 1 ≤ pw n := by
 unfold pw
 have := Nat.two_pow_pos n.toNat
 omega
def ordOk (o : Int) : Prop := 0 ≤ o ∧ o ≤ 4
theorem ord_cases {o : Int} (h : ordOk o) : (o = 0 ∧ pw o = 1) ∨ (o = 1 ∧ pw o = 2) ∨ (o = 2 ∧ pw o = 4) ∨ (o = 3 ∧ pw o = 8) ∨ (o = 4 ∧ pw o = 16) := by
 obtain ⟨h1, h2⟩ := h
 rcases (show o = 0 ∨ o = 1 ∨ o = 2 ∨ o = 3 ∨ o = 4 by omega) with rfl | rfl | rfl | rfl | rfl
 ·exact Or.inl ⟨rfl, rfl⟩
 ·exact Or.inr (Or.inl ⟨rfl, rfl⟩)
 ·exact Or.inr (Or.inr (Or.inl ⟨rfl, rfl⟩))
 ·exact Or.inr (Or.inr (Or.inr (Or.inl ⟨rfl, rfl⟩)))
 ·exact Or.inr (Or.inr (Or.inr (Or.inr ⟨rfl, rfl⟩)))
theorem pw_le {o : Int} (h : ordOk o) : pw o ≤ 16 := by rcases ord_cases h with ⟨_, e⟩ | ⟨_, e⟩ | ⟨_, e⟩ | ⟨_, e⟩ | ⟨_, e⟩ <;> omega
def blkIn (f t a o : Int) : Prop := ordOk o ∧ f ≤ a ∧ a ≤ t - 1 ∧ a % pw o = 0
def blkB (f t a o : Int) : Bool := inB o 0 4 && (inB a f (t - 1) && decide (a % pw o = 0))
theorem blkB_iff (f t a o : Int) : blkB f t a o = true ↔ blkIn f t a o := by
 unfold blkB blkIn ordOk
 simp only [Bool.and_eq_true, inB, decide_eq_true_eq]
 constructor
 ·rintro ⟨h1, h2, h3⟩; exact ⟨h1, h2.1, h2.2, h3⟩
 ·rintro ⟨h1, h2, h3, h4⟩; exact ⟨h1, ⟨h2, h3⟩, h4⟩
def typeOk (x : Int) : Prop := 0 ≤ x ∧ x ≤ 2
def besideP (p b : Bk) : Prop := b.o < 4 ∧ p.o = b.o ∧ p.a + pw b.o = b.a ∧ p.a % pw (b.o + 1) = 0
def FreeOk (f t : Int) : Int → Option Bk → List Bk → Prop
 | _, _, [] => True
 | lo, pv, b :: l => blkIn f t b.a b.o ∧ typeOk b.t ∧ lo ≤ b.a ∧ (∀ p, pv = some p → ¬ besideP p b) ∧ FreeOk f t (b.a + pw b.o) (some b) l
def lastOf : Option Bk → List Bk → Option Bk
 | pv, [] => pv
 | _, b :: l => lastOf (some b) l
def lowOf : Int → List Bk → Int
 | lo, [] => lo
 | _, b :: l => lowOf (b.a + pw b.o) l
theorem lastOf_snoc (pv : Option Bk) (l : List Bk) (b : Bk) : lastOf pv (l ++ [b]) = some b := by
 induction l generalizing pv with
 | nil => rfl
 | cons a l ih => exact ih _
theorem lowOf_snoc (lo : Int) (l : List Bk) (b : Bk) : lowOf lo (l ++ [b]) = b.a + pw b.o := by
 induction l generalizing lo with
 | nil => rfl
 | cons a l ih => exact ih _
theorem freeOk_snoc (f t lo : Int) (pv : Option Bk) (l : List Bk) (b : Bk) : FreeOk f t lo pv (l ++ [b]) ↔ FreeOk f t lo pv l ∧ blkIn f t b.a b.o ∧ typeOk b.t ∧ lowOf lo l ≤ b.a ∧ ∀ p, lastOf pv l = some p → ¬ besideP p b := by
 induction l generalizing lo pv with
 | nil => simp [FreeOk, lowOf, lastOf]
 | cons a l ih =>
  show _ ∧ _ ∧ _ ∧ _ ∧ FreeOk f t (a.a + pw a.o) (some a) (l ++ [b]) ↔ (_ ∧ _ ∧ _ ∧ _ ∧ FreeOk f t (a.a + pw a.o) (some a) l) ∧ _ ∧ _ ∧ lowOf (a.a + pw a.o) l ≤ b.a ∧ ∀ p, lastOf (some a) l = some p → ¬ besideP p b
  rw [ih]
  constructor
  ·rintro ⟨h1, h2, h3, h4, h5, h6⟩; exact ⟨⟨h1, h2, h3, h4, h5⟩, h6⟩
  ·rintro ⟨⟨h1, h2, h3, h4, h5⟩, h6⟩; exact ⟨h1, h2, h3, h4, h5, h6⟩
theorem freeOk_left {f t lo : Int} {pv : Option Bk} {l m : List Bk} (h : FreeOk f t lo pv (l ++ m)) : FreeOk f t lo pv l := by
 induction l generalizing lo pv with
 | nil => trivial
 | cons a l ih => exact ⟨h.1, h.2.1, h.2.2.1, h.2.2.2.1, ih h.2.2.2.2⟩
def newOk (f t : Int) : Prop := 0 ≤ f ∧ f ≤ t ∧ t ≤ 256 ∧ f % 16 = 0 ∧ t % 16 = 0
structure ZMay (z : Zn) : Prop where
 new : newOk z.f z.t
 len : 8 * (z.types.length : Int) = z.t - z.f
 ty : ∀ i, i < z.types.length → typeOk (z.types.getD i 0)
 free : FreeOk z.f z.t z.f none z.free
def newTypes (f t : Int) : List Int := List.replicate ((t - f) / 8).toNat 1
def newZ (f t : Int) : Zn := ⟨f, t, [], newTypes f t⟩
def freeN : List Bk → Int
 | [] => 0
 | b :: l => pw b.o + freeN l
theorem freeN_snoc (l : List Bk) (b : Bk) : freeN (l ++ [b]) = freeN l + pw b.o := by
 induction l with
 | nil => simp [freeN]
 | cons a l ih => simp only [List.cons_append, freeN, ih]; omega
theorem freeN_le {f t lo : Int} {pv : Option Bk} {l : List Bk} (h : FreeOk f t lo pv l) (ht : t % 16 = 0) (hlo : lo ≤ t) : 0 ≤ freeN l ∧ freeN l ≤ t - lo := by
 induction l generalizing lo pv with
 | nil => simp only [freeN]; omega
 | cons a l ih =>
  obtain ⟨⟨h1, h2, h3, h4⟩, _, h6, _, h7⟩ := h
  have hle : a.a + pw a.o ≤ t := by
   rcases ord_cases h1 with ⟨_, e⟩ | ⟨_, e⟩ | ⟨_, e⟩ | ⟨_, e⟩ | ⟨_, e⟩ <;> rw [e] at h4 ⊢ <;> omega
  have := ih h7 hle
  have := pw_pos a.o
  simp only [freeN]
  omega
theorem freeOk_count {f t lo : Int} {pv : Option Bk} {l : List Bk} (h : FreeOk f t lo pv l) (ht : t % 16 = 0) (hlo : lo ≤ t) : (l.length : Int) ≤ t - lo := by
 have h1 := (freeN_le h ht hlo).2
 have h2 : (l.length : Int) ≤ freeN l := by
  clear h h1
  induction l with
  | nil => simp [freeN]
  | cons a l ih => simp only [freeN, List.length_cons]; have := pw_pos a.o; omega
 omega
theorem freeOk_at {f t lo : Int} {pv : Option Bk} {l : List Bk} (h : FreeOk f t lo pv l) {k : Nat} (hk : k < l.length) {b : Bk} (hb : l.getD k .zero = b) :
    blkIn f t b.a b.o ∧ typeOk b.t ∧ lowOf lo (l.take k) ≤ b.a ∧ ∀ p, lastOf pv (l.take k) = some p → ¬ besideP p b := by
 have h1 : FreeOk f t lo pv (l.take (k + 1)) := by rw [← List.take_append_drop (k + 1) l] at h; exact freeOk_left h
 rw [take_getD l k hk hb, freeOk_snoc] at h1
 exact h1.2
end Go.Proofs.Ytnijjpakpphhhaa.Kit
namespace Go.Proofs.Ytnijjpakpphhhaa
open Go Go.RowKit Go.Proofs.Ytnijjpakpphhhaa.Kit
theorem made_b {P : Program} {t e : TypeId} {i : TypeInfo} {z : Value} (ht : P.underlying t = some (.slice e)) (hi : P.info? e = some i) (hz : i.zero = some z) (n : Nat) (hb : i.bytes * n ≤ 281474976710656) (hm : n ≤ maxLen) :
    ∃ M : Array Value, M.size = n * i.size ∧ ∀ W : World, (Instr.makeSlice t (.int .i64 (n : Int)) (.int .i64 (n : Int))).run P W = .ok (.slice (some ⟨W.heap.size, 0, none⟩) n n) (W.alloc (.cells M e)) := by
 refine ⟨madeCells z.cells (n * i.size), size_madeCells _ _, fun W => ?_⟩
 have hr := run_make (P := P) W t e i z ht hi hz .i64 .i64 n n (by omega) (Int.le_refl _) (by
  have h : ((i.bytes * n : Nat) : Int) ≤ 281474976710656 := by omega
  rwa [Int.natCast_mul] at h) (by have h := hm; simp [maxLen] at h; omega)
 simpa using hr
theorem owns_of_row {w : World} {base : Nat} {e : TypeId} {g n size : Nat} {xs : List Value} (h : w.heap[g]? = some (.cells xs.toArray e (0, 0))) (hb : base ≤ g) (hl : xs.length = n * size) (hm : n ≤ maxLen) :
    w.ownsRow base e size (.slice (some ⟨g, 0, none⟩) n n) n xs :=
 ⟨hl, .inr ⟨g, n, _, rfl, hb, h, Nat.le_refl _, hm, by simpa using hl, by simpa using List.take_of_length_le (by omega)⟩⟩
theorem owns_but {w w' : World} {base : Nat} {e : TypeId} {g n cap size c : Nat} {xs : List Value} (h : w.ownsRow base e size (.slice (some ⟨g, 0, none⟩) n cap) n xs) (hb : But c w w') (hne : g ≠ c) :
    w'.ownsRow base e size (.slice (some ⟨g, 0, none⟩) n cap) n xs :=
 h.kept (row := some c) ⟨hb.os, hb.tape, hb.output, hb.size, fun k hk hne => hb.block k hk (by intro g; exact hne (by rw [g]))⟩ (.inr (by simp [Value.ownBlock]; exact hne))
structure CpI (W0 : World) (zb : Nat) (f t : Int) (fo : Option Addr) (fn fc : Nat) (to_ : Option Addr) (tn tc : Nat) (x g k : Nat) (MB MT : Array Value) (W : World) : Prop where
 b : Below W0.heap.size W0 W
 zin : ZBox W zb (.int .i64 f) (.int .i64 t) (.slice fo fn fc) (.slice to_ tn tc)
 res : Res4 W (zb + 1)
 box : ZBox W x (.int .i64 f) (.int .i64 t) (.slice (some ⟨g, 0, none⟩) fn fn) (.slice (some ⟨k, 0, none⟩) tn tn)
 rg : W.heap[g]? = some (.cells MB 72 (0, 0))
 rk : W.heap[k]? = some (.cells MT 3 (0, 0))
 xg : x ≠ g
 xk : x ≠ k
 gk : g ≠ k
 x2 : zb + 2 ≤ x
 g2 : zb + 2 ≤ g
 k2 : zb + 2 ≤ k
theorem zbox_of_row {W : World} {x : Nat} {a b c d : Value} {t : TypeId} (h : W.heap[x]? = some (.cells #[a, b, c, d] t (0, 0))) : ZBox W x a b c d := by
 have hc : ∀ i : Nat, W.cell? ⟨x, i, none⟩ = (#[a, b, c, d] : Array Value)[i]? := fun i => by simp [World.cell?, h]
 have hf : ∀ i : Nat, W.frozen? ⟨x, i, none⟩ = false := fun i => by simp [World.frozen?, h]
 exact ⟨by rw [hc]; rfl, by rw [hc]; rfl, by rw [hc]; rfl, by rw [hc]; rfl, hf 0, hf 1, hf 2, hf 3⟩
theorem heap3 {W : World} {A B C : Obj} {n : Nat} (hs : W.heap.size = n) : ((((W.alloc A).alloc B).alloc C).drew).heap[n]? = some A ∧ ((((W.alloc A).alloc B).alloc C).drew).heap[n + 1]? = some B ∧ ((((W.alloc A).alloc B).alloc C).drew).heap[n + 1 + 1]? = some C := by
 subst hs
 show (((W.heap.push A).push B).push C)[W.heap.size]? = _ ∧ (((W.heap.push A).push B).push C)[W.heap.size + 1]? = _ ∧ (((W.heap.push A).push B).push C)[W.heap.size + 1 + 1]? = _
 refine ⟨?_, ?_, ?_⟩
 ·rw [Array.getElem?_push, if_neg (by simp; omega), Array.getElem?_push, if_neg (by simp), Array.getElem?_push, if_pos rfl]
 ·rw [Array.getElem?_push, if_neg (by simp), Array.getElem?_push, if_pos (by simp)]
 ·rw [Array.getElem?_push, if_pos (by simp)]
section
variable {W0 : World} {b : Nat} {f t : Int} {fo : Option Addr} {fn fc : Nat} {to_ : Option Addr} {tn tc : Nat} {x g k : Nat} {MB MT : Array Value} {W W' : World}
theorem cpI_of (Z0 : ZBox W0 b (.int .i64 f) (.int .i64 t) (.slice fo fn fc) (.slice to_ tn tc)) (R0 : Res4 W0 (b + 1)) (hb : Below W0.heap.size W0 W)
    (hx : W.heap[x]? = some (.cells #[.int .i64 f, .int .i64 t, .slice (some ⟨g, 0, none⟩) fn fn, .slice (some ⟨k, 0, none⟩) tn tn] 70 (0, 0)))
    (hg : W.heap[g]? = some (.cells MB 72 (0, 0))) (hk : W.heap[k]? = some (.cells MT 3 (0, 0))) (xg : x ≠ g) (xk : x ≠ k) (gk : g ≠ k) (x2 : b + 2 ≤ x) (g2 : b + 2 ≤ g) (k2 : b + 2 ≤ k) : CpI W0 b f t fo fn fc to_ tn tc x g k MB MT W :=
 ⟨hb, Z0.below hb, R0.below hb, zbox_of_row hx, hg, hk, xg, xk, gk, x2, g2, k2⟩
theorem cpI_423 (Z0 : ZBox W0 b (.int .i64 f) (.int .i64 t) (.slice fo fn fc) (.slice to_ tn tc)) (R0 : Res4 W0 (b + 1)) (hs : W0.heap.size = b + 2) :
    CpI W0 b f t fo fn fc to_ tn tc (b + 2 + 1 + 1) (b + 2) (b + 2 + 1) MB MT ((((W0.alloc (.cells MB 72)).alloc (.cells MT 3)).alloc (.cells #[.int .i64 f, .int .i64 t, .slice (some ⟨b + 2, 0, none⟩) fn fn, .slice (some ⟨b + 2 + 1, 0, none⟩) tn tn] 70)).drew) :=
 cpI_of Z0 R0 (((((Below.refl _ _).alloc (Nat.le_refl _) _).alloc (by simp) _).alloc (by simp; omega) _).drew) (heap3 hs).2.2 (heap3 hs).1 (heap3 hs).2.1 (by omega) (by omega) (by omega) (by omega) (by omega) (by omega)
theorem cpI_324 (Z0 : ZBox W0 b (.int .i64 f) (.int .i64 t) (.slice fo fn fc) (.slice to_ tn tc)) (R0 : Res4 W0 (b + 1)) (hs : W0.heap.size = b + 2) :
    CpI W0 b f t fo fn fc to_ tn tc (b + 2 + 1) (b + 2) (b + 2 + 1 + 1) MB MT ((((W0.alloc (.cells MB 72)).alloc (.cells #[.int .i64 f, .int .i64 t, .slice (some ⟨b + 2, 0, none⟩) fn fn, .slice (some ⟨b + 2 + 1 + 1, 0, none⟩) tn tn] 70)).alloc (.cells MT 3)).drew) :=
 cpI_of Z0 R0 (((((Below.refl _ _).alloc (Nat.le_refl _) _).alloc (by simp) _).alloc (by simp; omega) _).drew) (heap3 hs).2.1 (heap3 hs).1 (heap3 hs).2.2 (by omega) (by omega) (by omega) (by omega) (by omega) (by omega)
theorem cpI_432 (Z0 : ZBox W0 b (.int .i64 f) (.int .i64 t) (.slice fo fn fc) (.slice to_ tn tc)) (R0 : Res4 W0 (b + 1)) (hs : W0.heap.size = b + 2) :
    CpI W0 b f t fo fn fc to_ tn tc (b + 2 + 1 + 1) (b + 2 + 1) (b + 2) MB MT ((((W0.alloc (.cells MT 3)).alloc (.cells MB 72)).alloc (.cells #[.int .i64 f, .int .i64 t, .slice (some ⟨b + 2 + 1, 0, none⟩) fn fn, .slice (some ⟨b + 2, 0, none⟩) tn tn] 70)).drew) :=
 cpI_of Z0 R0 (((((Below.refl _ _).alloc (Nat.le_refl _) _).alloc (by simp) _).alloc (by simp; omega) _).drew) (heap3 hs).2.2 (heap3 hs).2.1 (heap3 hs).1 (by omega) (by omega) (by omega) (by omega) (by omega) (by omega)
theorem cpI_342 (Z0 : ZBox W0 b (.int .i64 f) (.int .i64 t) (.slice fo fn fc) (.slice to_ tn tc)) (R0 : Res4 W0 (b + 1)) (hs : W0.heap.size = b + 2) :
    CpI W0 b f t fo fn fc to_ tn tc (b + 2 + 1) (b + 2 + 1 + 1) (b + 2) MB MT ((((W0.alloc (.cells MT 3)).alloc (.cells #[.int .i64 f, .int .i64 t, .slice (some ⟨b + 2 + 1 + 1, 0, none⟩) fn fn, .slice (some ⟨b + 2, 0, none⟩) tn tn] 70)).alloc (.cells MB 72)).drew) :=
 cpI_of Z0 R0 (((((Below.refl _ _).alloc (Nat.le_refl _) _).alloc (by simp) _).alloc (by simp; omega) _).drew) (heap3 hs).2.1 (heap3 hs).2.2 (heap3 hs).1 (by omega) (by omega) (by omega) (by omega) (by omega) (by omega)
theorem cpI_234 (Z0 : ZBox W0 b (.int .i64 f) (.int .i64 t) (.slice fo fn fc) (.slice to_ tn tc)) (R0 : Res4 W0 (b + 1)) (hs : W0.heap.size = b + 2) :
    CpI W0 b f t fo fn fc to_ tn tc (b + 2) (b + 2 + 1) (b + 2 + 1 + 1) MB MT ((((W0.alloc (.cells #[.int .i64 f, .int .i64 t, .slice (some ⟨b + 2 + 1, 0, none⟩) fn fn, .slice (some ⟨b + 2 + 1 + 1, 0, none⟩) tn tn] 70)).alloc (.cells MB 72)).alloc (.cells MT 3)).drew) :=
 cpI_of Z0 R0 (((((Below.refl _ _).alloc (Nat.le_refl _) _).alloc (by simp) _).alloc (by simp; omega) _).drew) (heap3 hs).1 (heap3 hs).2.1 (heap3 hs).2.2 (by omega) (by omega) (by omega) (by omega) (by omega) (by omega)
theorem cpI_243 (Z0 : ZBox W0 b (.int .i64 f) (.int .i64 t) (.slice fo fn fc) (.slice to_ tn tc)) (R0 : Res4 W0 (b + 1)) (hs : W0.heap.size = b + 2) :
    CpI W0 b f t fo fn fc to_ tn tc (b + 2) (b + 2 + 1 + 1) (b + 2 + 1) MB MT ((((W0.alloc (.cells #[.int .i64 f, .int .i64 t, .slice (some ⟨b + 2 + 1 + 1, 0, none⟩) fn fn, .slice (some ⟨b + 2 + 1, 0, none⟩) tn tn] 70)).alloc (.cells MT 3)).alloc (.cells MB 72)).drew) :=
 cpI_of Z0 R0 (((((Below.refl _ _).alloc (Nat.le_refl _) _).alloc (by simp) _).alloc (by simp; omega) _).drew) (heap3 hs).1 (heap3 hs).2.2 (heap3 hs).2.1 (by omega) (by omega) (by omega) (by omega) (by omega) (by omega)
theorem CpI.copied (h : CpI W0 b f t fo fn fc to_ tn tc x g k MB MT W) (hb : But g W W') {M : Array Value} (hg : W'.heap[g]? = some (.cells M 72 (0, 0))) (hs : W0.heap.size ≤ g) : CpI W0 b f t fo fn fc to_ tn tc x g k M MT W' :=
 ⟨h.b.trans (hb.below hs h.b.size), h.zin.but hb (by have := h.g2; omega), h.res.but hb (by have := h.g2; omega), h.box.but hb h.xg, hg, (hb.block k (Array.getElem?_eq_some_iff.1 h.rk).1 (fun e => h.gk e.symm)).trans h.rk, h.xg, h.xk, h.gk, h.x2, h.g2, h.k2⟩
theorem CpI.copied2 (h : CpI W0 b f t fo fn fc to_ tn tc x g k MB MT W) (hb : But k W W') {M : Array Value} (hg : W'.heap[k]? = some (.cells M 3 (0, 0))) (hs : W0.heap.size ≤ k) : CpI W0 b f t fo fn fc to_ tn tc x g k MB M W' :=
 ⟨h.b.trans (hb.below hs h.b.size), h.zin.but hb (by have := h.k2; omega), h.res.but hb (by have := h.k2; omega), h.box.but hb h.xk, (hb.block g (Array.getElem?_eq_some_iff.1 h.rg).1 h.gk).trans h.rg, hg, h.xg, h.xk, h.gk, h.x2, h.g2, h.k2⟩
theorem CpI.last {LB LT CB CT : List Value} {free : List Bk} {types : List Int} (h : CpI W0 b f t fo fn fc to_ tn tc x g k (splice LB 0 CB).toArray (splice LT 0 CT).toArray W) (eB : CB = bvals free) (eT : CT = vals types) (lB : CB.length = fn * 3) (lT : CT.length = tn * 1) (mB : LB.length = fn * 3) (mT : LT.length = tn * 1) (hmf : fn ≤ maxLen) (hmt : tn ≤ maxLen) :
    W.ownsRow b 72 3 (.slice (some ⟨g, 0, none⟩) fn fn) fn (bvals free) ∧ W.ownsRow b 3 1 (.slice (some ⟨k, 0, none⟩) tn tn) tn (vals types) ∧ g ≠ k := by
 have hg := h.rg
 have hk := h.rk
 rw [splice_all (by omega)] at hg hk
 exact ⟨by rw [← eB]; exact owns_of_row hg (by have := h.g2; omega) lB hmf, by rw [← eT]; exact owns_of_row hk (by have := h.k2; omega) lT hmt, h.gk⟩
end
theorem zCopy_own (w : World) (fo : Option Addr) (fn fc : Nat) (to_ : Option Addr) (tn tc : Nat) (z : Zn) (h : ZnAt w fo fn to_ tn z) :
    Calls Try.prog 45 #[.agg #[.int .i64 z.f, .int .i64 z.t, .slice fo fn fc, .slice to_ tn tc]] w fun e w' => ∃ g k, e = .returned (.agg #[.int .i64 z.f, .int .i64 z.t, .slice (some ⟨g, 0, none⟩) fn fn, .slice (some ⟨k, 0, none⟩) tn tn]) ∧
     w'.ownsRow w.heap.size 72 3 (.slice (some ⟨g, 0, none⟩) fn fn) fn (bvals z.free) ∧ w'.ownsRow w.heap.size 3 1 (.slice (some ⟨k, 0, none⟩) tn tn) tn (vals z.types) ∧ g ≠ k ∧ Below w.heap.size w w' := by
 obtain ⟨f, t, free, types⟩ := z
 obtain ⟨hf, ht⟩ := h
 dsimp only at hf ht ⊢
 obtain ⟨i0, hi, hz0, hz1, hz2⟩ := info_parts info_int
 obtain ⟨i1, hj, hy0, hy1, hy2⟩ := info_parts info_block
 have hfr := hf.reach
 have htr := ht.reach
 have hmf : fn ≤ maxLen := by unfold maxLen; omega
 have hmt : tn ≤ maxLen := by unfold maxLen; omega
 obtain ⟨MB, sB, hB⟩ := made_b (P := Try.prog) Try.underlying25 hj hy0 fn (by rw [hy2]; omega) hmf
 obtain ⟨MT, sT, hT⟩ := made_b (P := Try.prog) Try.underlying22 hi hz0 tn (by rw [hz2]; omega) hmt
 rw [hy1] at sB
 rw [hz1] at sT
 obtain ⟨W0, hW0⟩ : ∃ W0, (w.alloc (.cells #[.int .i64 f, .int .i64 t, .slice fo fn fc, .slice to_ tn tc] 70)).alloc (.cells #[.int .i64 0, .int .i64 0, .slice none 0 0, .slice none 0 0] 70) = W0 := ⟨_, rfl⟩
 have hb0 : Below w.heap.size w W0 := by rw [← hW0]; exact ((Below.refl _ _).alloc (Nat.le_refl _) _).alloc (by simp) _
 have Z0 : ZBox W0 w.heap.size (.int .i64 f) (.int .i64 t) (.slice fo fn fc) (.slice to_ tn tc) := by rw [← hW0]; exact (zbox_new w _ _ _ _ _).below (below_box _ _)
 have R0 : Res4 W0 (w.heap.size + 1) := by
  rw [← hW0]
  have := zbox_new (w.alloc (.cells #[.int .i64 f, .int .i64 t, .slice fo fn fc, .slice to_ tn tc] 70)) (.int .i64 0) (.int .i64 0) (.slice none 0 0) (.slice none 0 0) 70
  have h2 := this.res
  simpa using h2
 have hs0 : W0.heap.size = w.heap.size + 2 := by rw [← hW0]; simp
 have HW0 : Hid _ := hW0
 have Z1 := Z0
 have R1 := R0
 obtain ⟨CB, hCB⟩ : ∃ CB, CB = bvals free := ⟨_, rfl⟩
 obtain ⟨CT, hCT⟩ : ∃ CT, CT = vals types := ⟨_, rfl⟩
 have lB : CB.length = fn * 3 := by rw [hCB, length_bvals, hf.len]
 have lT : CT.length = tn * 1 := by rw [hCT, length_vals, ht.len, Nat.mul_one]
 have oB : ∀ v ∈ CB, v.oneCell' = true := by rw [hCB]; exact bvals_oneCell _
 have oT : ∀ v ∈ CT, v.oneCell' = true := by rw [hCT]; exact vals_oneCell _
 have HSB : Hid (∀ W, Below W0.heap.size W0 W → 0 < fn → ∃ ad, fo = some ad ∧ ∀ j v, CB[j]? = some v → W.cell? (ad.add j) = some v) := fun W hW h0 => by
  rw [hCB]
  exact bsrc_of ((hf.below hb0).below hW).at_ (by have := hf.len; omega)
 have HST : Hid (∀ W, Below W0.heap.size W0 W → 0 < tn → ∃ ad, to_ = some ad ∧ ∀ j v, CT[j]? = some v → W.cell? (ad.add j) = some v) := fun W hW h0 => by
  rw [hCT]
  exact src_of ((ht.below hb0).below hW).at_ (by have := ht.len; omega)
 have HCB : Hid _ := hCB
 have HCT : Hid _ := hCT
 clear hCB hCT
 have c0 := Z0.c0
 have c1 := Z0.c1
 have c2 := Z0.c2
 have c3 := Z0.c3
 have hsB : Hid (MB.size = fn * 3) := sB
 have hsT : Hid (MT.size = tn * 1) := sT
 clear hW0 sB sT
 go_enter Try.func45, Try.ntmps45
 go_wp2_with (rw [HW0.out])
 clear HW0
 go_region
 clear Z0 R0 c0 c1 c2 c3 hB hT hf ht
 ·have I1 : CpI W0 w.heap.size f t fo fn fc to_ tn tc (w.heap.size + 2 + 1 + 1) (w.heap.size + 2) (w.heap.size + 2 + 1) MB MT _ := cpI_423 Z1 R1 hs0
  generalize World.drew _ = W1 at I1 ⊢
  generalize w.heap.size + 2 + 1 + 1 = n4 at I1 ⊢
  generalize w.heap.size + 2 + 1 = n3 at I1 ⊢
  generalize hn2 : w.heap.size + 2 = n2 at I1 ⊢
  have hx2 := I1.x2
  have hg2 := I1.g2
  have hk2 := I1.k2
  have y2 := I1.box.c2
  have y3 := I1.box.c3
  have q2 := I1.zin.c2
  have q3 := I1.zin.c3
  go_wp2_with (first
   | (refine wpList_copy_k rfl (.tmp 18) (.tmp 20) 25 25 rfl 72 3 Try.underlying25 size_block _ _ _ _ _ _ rfl rfl n2 0 MB.toList 72 (by simpa using I1.rg) CB fn (Nat.min_self _) lB (fun h0 => ⟨rfl, HSB.out _ I1.b h0⟩) (by simp only [Array.length_toList]; rw [lB, hsB.out]; omega) oB ?_; intro w2 hg2 hb2; have I2 := I1.copied hb2 hg2.out (by omega); have a3 := I2.box.c3; have b3 := I2.zin.c3)
   | (refine wpList_copy_k rfl (.tmp 23) (.tmp 25) 22 22 rfl 3 1 Try.underlying22 size_int _ _ _ _ _ _ rfl rfl n3 0 MT.toList 3 (by simpa using I2.rk) CT tn (Nat.min_self _) lT (fun h0 => ⟨rfl, HST.out _ I2.b h0⟩) (by simp only [Array.length_toList]; rw [lT, hsT.out]; omega) oT ?_; intro w3 hg3 hb3; have I3 := I2.copied2 hb3 hg3.out (by omega); have e0 := I3.box.c0; have e1 := I3.box.c1; have e2 := I3.box.c2; have e3 := I3.box.c3; have R3 := I3.res; obtain ⟨⟨x0, d0⟩, ⟨x1, d1⟩, ⟨x2, d2⟩, ⟨x3, d3⟩, z0, z1, z2, z3⟩ := id R3))
  obtain ⟨o1, o2, o3⟩ := I3.last HCB.out HCT.out lB lT (by rw [Array.length_toList, hsB.out]) (by rw [Array.length_toList, hsT.out]) hmf hmt
  have hB3 := hb0.trans (I3.b.mono (by omega))
  obtain ⟨k0, k1, k2, k3⟩ := res4 R3 (.int .i64 f) (.int .i64 t) (.slice (some ⟨n2, 0, none⟩) fn fn) (.slice (some ⟨n3, 0, none⟩) tn tn)
  have hbt := but4 w3 (w.heap.size + 1) (.int .i64 f) (.int .i64 t) (.slice (some ⟨n2, 0, none⟩) fn fn) (.slice (some ⟨n3, 0, none⟩) tn tn)
  exact bodyPost_ret (v := .agg #[.int .i64 f, .int .i64 t, .slice (some ⟨n2, 0, none⟩) fn fn, .slice (some ⟨n3, 0, none⟩) tn tn]) (by simp [results, Try.results45, go_sem, k0, k1, k2, k3]) rfl ⟨n2, n3, rfl, owns_but o1 hbt (by omega), owns_but o2 hbt (by omega), o3, hB3.trans (hbt.below (by omega) hB3.size)⟩
 ·have I1 : CpI W0 w.heap.size f t fo fn fc to_ tn tc (w.heap.size + 2 + 1) (w.heap.size + 2) (w.heap.size + 2 + 1 + 1) MB MT _ := cpI_324 Z1 R1 hs0
  generalize World.drew _ = W1 at I1 ⊢
  generalize w.heap.size + 2 + 1 + 1 = n4 at I1 ⊢
  generalize w.heap.size + 2 + 1 = n3 at I1 ⊢
  generalize hn2 : w.heap.size + 2 = n2 at I1 ⊢
  have hx2 := I1.x2
  have hg2 := I1.g2
  have hk2 := I1.k2
  have y2 := I1.box.c2
  have y3 := I1.box.c3
  have q2 := I1.zin.c2
  have q3 := I1.zin.c3
  go_wp2_with (first
   | (refine wpList_copy_k rfl (.tmp 18) (.tmp 20) 25 25 rfl 72 3 Try.underlying25 size_block _ _ _ _ _ _ rfl rfl n2 0 MB.toList 72 (by simpa using I1.rg) CB fn (Nat.min_self _) lB (fun h0 => ⟨rfl, HSB.out _ I1.b h0⟩) (by simp only [Array.length_toList]; rw [lB, hsB.out]; omega) oB ?_; intro w2 hg2 hb2; have I2 := I1.copied hb2 hg2.out (by omega); have a3 := I2.box.c3; have b3 := I2.zin.c3)
   | (refine wpList_copy_k rfl (.tmp 23) (.tmp 25) 22 22 rfl 3 1 Try.underlying22 size_int _ _ _ _ _ _ rfl rfl n4 0 MT.toList 3 (by simpa using I2.rk) CT tn (Nat.min_self _) lT (fun h0 => ⟨rfl, HST.out _ I2.b h0⟩) (by simp only [Array.length_toList]; rw [lT, hsT.out]; omega) oT ?_; intro w3 hg3 hb3; have I3 := I2.copied2 hb3 hg3.out (by omega); have e0 := I3.box.c0; have e1 := I3.box.c1; have e2 := I3.box.c2; have e3 := I3.box.c3; have R3 := I3.res; obtain ⟨⟨x0, d0⟩, ⟨x1, d1⟩, ⟨x2, d2⟩, ⟨x3, d3⟩, z0, z1, z2, z3⟩ := id R3))
  obtain ⟨o1, o2, o3⟩ := I3.last HCB.out HCT.out lB lT (by rw [Array.length_toList, hsB.out]) (by rw [Array.length_toList, hsT.out]) hmf hmt
  have hB3 := hb0.trans (I3.b.mono (by omega))
  obtain ⟨k0, k1, k2, k3⟩ := res4 R3 (.int .i64 f) (.int .i64 t) (.slice (some ⟨n2, 0, none⟩) fn fn) (.slice (some ⟨n4, 0, none⟩) tn tn)
  have hbt := but4 w3 (w.heap.size + 1) (.int .i64 f) (.int .i64 t) (.slice (some ⟨n2, 0, none⟩) fn fn) (.slice (some ⟨n4, 0, none⟩) tn tn)
  exact bodyPost_ret (v := .agg #[.int .i64 f, .int .i64 t, .slice (some ⟨n2, 0, none⟩) fn fn, .slice (some ⟨n4, 0, none⟩) tn tn]) (by simp [results, Try.results45, go_sem, k0, k1, k2, k3]) rfl ⟨n2, n4, rfl, owns_but o1 hbt (by omega), owns_but o2 hbt (by omega), o3, hB3.trans (hbt.below (by omega) hB3.size)⟩
 ·have I1 : CpI W0 w.heap.size f t fo fn fc to_ tn tc (w.heap.size + 2 + 1 + 1) (w.heap.size + 2 + 1) (w.heap.size + 2) MB MT _ := cpI_432 Z1 R1 hs0
  generalize World.drew _ = W1 at I1 ⊢
  generalize w.heap.size + 2 + 1 + 1 = n4 at I1 ⊢
  generalize w.heap.size + 2 + 1 = n3 at I1 ⊢
  generalize hn2 : w.heap.size + 2 = n2 at I1 ⊢
  have hx2 := I1.x2
  have hg2 := I1.g2
  have hk2 := I1.k2
  have y2 := I1.box.c2
  have y3 := I1.box.c3
  have q2 := I1.zin.c2
  have q3 := I1.zin.c3
  go_wp2_with (first
   | (refine wpList_copy_k rfl (.tmp 18) (.tmp 20) 25 25 rfl 72 3 Try.underlying25 size_block _ _ _ _ _ _ rfl rfl n3 0 MB.toList 72 (by simpa using I1.rg) CB fn (Nat.min_self _) lB (fun h0 => ⟨rfl, HSB.out _ I1.b h0⟩) (by simp only [Array.length_toList]; rw [lB, hsB.out]; omega) oB ?_; intro w2 hg2 hb2; have I2 := I1.copied hb2 hg2.out (by omega); have a3 := I2.box.c3; have b3 := I2.zin.c3)
   | (refine wpList_copy_k rfl (.tmp 23) (.tmp 25) 22 22 rfl 3 1 Try.underlying22 size_int _ _ _ _ _ _ rfl rfl n2 0 MT.toList 3 (by simpa using I2.rk) CT tn (Nat.min_self _) lT (fun h0 => ⟨rfl, HST.out _ I2.b h0⟩) (by simp only [Array.length_toList]; rw [lT, hsT.out]; omega) oT ?_; intro w3 hg3 hb3; have I3 := I2.copied2 hb3 hg3.out (by omega); have e0 := I3.box.c0; have e1 := I3.box.c1; have e2 := I3.box.c2; have e3 := I3.box.c3; have R3 := I3.res; obtain ⟨⟨x0, d0⟩, ⟨x1, d1⟩, ⟨x2, d2⟩, ⟨x3, d3⟩, z0, z1, z2, z3⟩ := id R3))
  obtain ⟨o1, o2, o3⟩ := I3.last HCB.out HCT.out lB lT (by rw [Array.length_toList, hsB.out]) (by rw [Array.length_toList, hsT.out]) hmf hmt
  have hB3 := hb0.trans (I3.b.mono (by omega))
  obtain ⟨k0, k1, k2, k3⟩ := res4 R3 (.int .i64 f) (.int .i64 t) (.slice (some ⟨n3, 0, none⟩) fn fn) (.slice (some ⟨n2, 0, none⟩) tn tn)
  have hbt := but4 w3 (w.heap.size + 1) (.int .i64 f) (.int .i64 t) (.slice (some ⟨n3, 0, none⟩) fn fn) (.slice (some ⟨n2, 0, none⟩) tn tn)
  exact bodyPost_ret (v := .agg #[.int .i64 f, .int .i64 t, .slice (some ⟨n3, 0, none⟩) fn fn, .slice (some ⟨n2, 0, none⟩) tn tn]) (by simp [results, Try.results45, go_sem, k0, k1, k2, k3]) rfl ⟨n3, n2, rfl, owns_but o1 hbt (by omega), owns_but o2 hbt (by omega), o3, hB3.trans (hbt.below (by omega) hB3.size)⟩
 ·have I1 : CpI W0 w.heap.size f t fo fn fc to_ tn tc (w.heap.size + 2 + 1) (w.heap.size + 2 + 1 + 1) (w.heap.size + 2) MB MT _ := cpI_342 Z1 R1 hs0
  generalize World.drew _ = W1 at I1 ⊢
  generalize w.heap.size + 2 + 1 + 1 = n4 at I1 ⊢
  generalize w.heap.size + 2 + 1 = n3 at I1 ⊢
  generalize hn2 : w.heap.size + 2 = n2 at I1 ⊢
  have hx2 := I1.x2
  have hg2 := I1.g2
  have hk2 := I1.k2
  have y2 := I1.box.c2
  have y3 := I1.box.c3
  have q2 := I1.zin.c2
  have q3 := I1.zin.c3
  go_wp2_with (first
   | (refine wpList_copy_k rfl (.tmp 18) (.tmp 20) 25 25 rfl 72 3 Try.underlying25 size_block _ _ _ _ _ _ rfl rfl n4 0 MB.toList 72 (by simpa using I1.rg) CB fn (Nat.min_self _) lB (fun h0 => ⟨rfl, HSB.out _ I1.b h0⟩) (by simp only [Array.length_toList]; rw [lB, hsB.out]; omega) oB ?_; intro w2 hg2 hb2; have I2 := I1.copied hb2 hg2.out (by omega); have a3 := I2.box.c3; have b3 := I2.zin.c3)
   | (refine wpList_copy_k rfl (.tmp 23) (.tmp 25) 22 22 rfl 3 1 Try.underlying22 size_int _ _ _ _ _ _ rfl rfl n2 0 MT.toList 3 (by simpa using I2.rk) CT tn (Nat.min_self _) lT (fun h0 => ⟨rfl, HST.out _ I2.b h0⟩) (by simp only [Array.length_toList]; rw [lT, hsT.out]; omega) oT ?_; intro w3 hg3 hb3; have I3 := I2.copied2 hb3 hg3.out (by omega); have e0 := I3.box.c0; have e1 := I3.box.c1; have e2 := I3.box.c2; have e3 := I3.box.c3; have R3 := I3.res; obtain ⟨⟨x0, d0⟩, ⟨x1, d1⟩, ⟨x2, d2⟩, ⟨x3, d3⟩, z0, z1, z2, z3⟩ := id R3))
  obtain ⟨o1, o2, o3⟩ := I3.last HCB.out HCT.out lB lT (by rw [Array.length_toList, hsB.out]) (by rw [Array.length_toList, hsT.out]) hmf hmt
  have hB3 := hb0.trans (I3.b.mono (by omega))
  obtain ⟨k0, k1, k2, k3⟩ := res4 R3 (.int .i64 f) (.int .i64 t) (.slice (some ⟨n4, 0, none⟩) fn fn) (.slice (some ⟨n2, 0, none⟩) tn tn)
  have hbt := but4 w3 (w.heap.size + 1) (.int .i64 f) (.int .i64 t) (.slice (some ⟨n4, 0, none⟩) fn fn) (.slice (some ⟨n2, 0, none⟩) tn tn)
  exact bodyPost_ret (v := .agg #[.int .i64 f, .int .i64 t, .slice (some ⟨n4, 0, none⟩) fn fn, .slice (some ⟨n2, 0, none⟩) tn tn]) (by simp [results, Try.results45, go_sem, k0, k1, k2, k3]) rfl ⟨n4, n2, rfl, owns_but o1 hbt (by omega), owns_but o2 hbt (by omega), o3, hB3.trans (hbt.below (by omega) hB3.size)⟩
 ·have I1 : CpI W0 w.heap.size f t fo fn fc to_ tn tc (w.heap.size + 2) (w.heap.size + 2 + 1) (w.heap.size + 2 + 1 + 1) MB MT _ := cpI_234 Z1 R1 hs0
  generalize World.drew _ = W1 at I1 ⊢
  generalize w.heap.size + 2 + 1 + 1 = n4 at I1 ⊢
  generalize w.heap.size + 2 + 1 = n3 at I1 ⊢
  generalize hn2 : w.heap.size + 2 = n2 at I1 ⊢
  have hx2 := I1.x2
  have hg2 := I1.g2
  have hk2 := I1.k2
  have y2 := I1.box.c2
  have y3 := I1.box.c3
  have q2 := I1.zin.c2
  have q3 := I1.zin.c3
  go_wp2_with (first
   | (refine wpList_copy_k rfl (.tmp 18) (.tmp 20) 25 25 rfl 72 3 Try.underlying25 size_block _ _ _ _ _ _ rfl rfl n3 0 MB.toList 72 (by simpa using I1.rg) CB fn (Nat.min_self _) lB (fun h0 => ⟨rfl, HSB.out _ I1.b h0⟩) (by simp only [Array.length_toList]; rw [lB, hsB.out]; omega) oB ?_; intro w2 hg2 hb2; have I2 := I1.copied hb2 hg2.out (by omega); have a3 := I2.box.c3; have b3 := I2.zin.c3)
   | (refine wpList_copy_k rfl (.tmp 23) (.tmp 25) 22 22 rfl 3 1 Try.underlying22 size_int _ _ _ _ _ _ rfl rfl n4 0 MT.toList 3 (by simpa using I2.rk) CT tn (Nat.min_self _) lT (fun h0 => ⟨rfl, HST.out _ I2.b h0⟩) (by simp only [Array.length_toList]; rw [lT, hsT.out]; omega) oT ?_; intro w3 hg3 hb3; have I3 := I2.copied2 hb3 hg3.out (by omega); have e0 := I3.box.c0; have e1 := I3.box.c1; have e2 := I3.box.c2; have e3 := I3.box.c3; have R3 := I3.res; obtain ⟨⟨x0, d0⟩, ⟨x1, d1⟩, ⟨x2, d2⟩, ⟨x3, d3⟩, z0, z1, z2, z3⟩ := id R3))
  obtain ⟨o1, o2, o3⟩ := I3.last HCB.out HCT.out lB lT (by rw [Array.length_toList, hsB.out]) (by rw [Array.length_toList, hsT.out]) hmf hmt
  have hB3 := hb0.trans (I3.b.mono (by omega))
  obtain ⟨k0, k1, k2, k3⟩ := res4 R3 (.int .i64 f) (.int .i64 t) (.slice (some ⟨n3, 0, none⟩) fn fn) (.slice (some ⟨n4, 0, none⟩) tn tn)
  have hbt := but4 w3 (w.heap.size + 1) (.int .i64 f) (.int .i64 t) (.slice (some ⟨n3, 0, none⟩) fn fn) (.slice (some ⟨n4, 0, none⟩) tn tn)
  exact bodyPost_ret (v := .agg #[.int .i64 f, .int .i64 t, .slice (some ⟨n3, 0, none⟩) fn fn, .slice (some ⟨n4, 0, none⟩) tn tn]) (by simp [results, Try.results45, go_sem, k0, k1, k2, k3]) rfl ⟨n3, n4, rfl, owns_but o1 hbt (by omega), owns_but o2 hbt (by omega), o3, hB3.trans (hbt.below (by omega) hB3.size)⟩
 ·have I1 : CpI W0 w.heap.size f t fo fn fc to_ tn tc (w.heap.size + 2) (w.heap.size + 2 + 1 + 1) (w.heap.size + 2 + 1) MB MT _ := cpI_243 Z1 R1 hs0
  generalize World.drew _ = W1 at I1 ⊢
  generalize w.heap.size + 2 + 1 + 1 = n4 at I1 ⊢
  generalize w.heap.size + 2 + 1 = n3 at I1 ⊢
  generalize hn2 : w.heap.size + 2 = n2 at I1 ⊢
  have hx2 := I1.x2
  have hg2 := I1.g2
  have hk2 := I1.k2
  have y2 := I1.box.c2
  have y3 := I1.box.c3
  have q2 := I1.zin.c2
  have q3 := I1.zin.c3
  go_wp2_with (first
   | (refine wpList_copy_k rfl (.tmp 18) (.tmp 20) 25 25 rfl 72 3 Try.underlying25 size_block _ _ _ _ _ _ rfl rfl n4 0 MB.toList 72 (by simpa using I1.rg) CB fn (Nat.min_self _) lB (fun h0 => ⟨rfl, HSB.out _ I1.b h0⟩) (by simp only [Array.length_toList]; rw [lB, hsB.out]; omega) oB ?_; intro w2 hg2 hb2; have I2 := I1.copied hb2 hg2.out (by omega); have a3 := I2.box.c3; have b3 := I2.zin.c3)
   | (refine wpList_copy_k rfl (.tmp 23) (.tmp 25) 22 22 rfl 3 1 Try.underlying22 size_int _ _ _ _ _ _ rfl rfl n3 0 MT.toList 3 (by simpa using I2.rk) CT tn (Nat.min_self _) lT (fun h0 => ⟨rfl, HST.out _ I2.b h0⟩) (by simp only [Array.length_toList]; rw [lT, hsT.out]; omega) oT ?_; intro w3 hg3 hb3; have I3 := I2.copied2 hb3 hg3.out (by omega); have e0 := I3.box.c0; have e1 := I3.box.c1; have e2 := I3.box.c2; have e3 := I3.box.c3; have R3 := I3.res; obtain ⟨⟨x0, d0⟩, ⟨x1, d1⟩, ⟨x2, d2⟩, ⟨x3, d3⟩, z0, z1, z2, z3⟩ := id R3))
  obtain ⟨o1, o2, o3⟩ := I3.last HCB.out HCT.out lB lT (by rw [Array.length_toList, hsB.out]) (by rw [Array.length_toList, hsT.out]) hmf hmt
  have hB3 := hb0.trans (I3.b.mono (by omega))
  obtain ⟨k0, k1, k2, k3⟩ := res4 R3 (.int .i64 f) (.int .i64 t) (.slice (some ⟨n4, 0, none⟩) fn fn) (.slice (some ⟨n3, 0, none⟩) tn tn)
  have hbt := but4 w3 (w.heap.size + 1) (.int .i64 f) (.int .i64 t) (.slice (some ⟨n4, 0, none⟩) fn fn) (.slice (some ⟨n3, 0, none⟩) tn tn)
  exact bodyPost_ret (v := .agg #[.int .i64 f, .int .i64 t, .slice (some ⟨n4, 0, none⟩) fn fn, .slice (some ⟨n3, 0, none⟩) tn tn]) (by simp [results, Try.results45, go_sem, k0, k1, k2, k3]) rfl ⟨n4, n3, rfl, owns_but o1 hbt (by omega), owns_but o2 hbt (by omega), o3, hB3.trans (hbt.below (by omega) hB3.size)⟩
theorem zCopy_any (w : World) (fo : Option Addr) (fn fc : Nat) (to_ : Option Addr) (tn tc : Nat) (z : Zn) (h : ZnAt w fo fn to_ tn z) :
    Calls Try.prog 45 #[.agg #[.int .i64 z.f, .int .i64 z.t, .slice fo fn fc, .slice to_ tn tc]] w fun e w' => RetZ w.heap.size w' z e ∧ Below w.heap.size w w' := by
 refine (zCopy_own w fo fn fc to_ tn tc z h).mono ?_
 rintro e w1 ⟨g, k, rfl, o1, o2, _, hb⟩
 exact ⟨⟨_, _, _, _, _, _, rfl, ⟨blks_own o1 h.free.reach, nums_of_owns o2 h.types.reach⟩, owns_fresh o1, owns_fresh o2⟩, hb⟩
theorem sysTypes : SysTypes Try.prog 30 27 22 3 28 45 42 9 43 49 where
 sys := ⟨_, _, _, Try.underlying30, by kernel_rfl, by kernel_rfl, by kernel_rfl, rfl, rfl, rfl⟩
 sc := by kernel_rfl
 c0 := by kernel_rfl
 c2 := by kernel_rfl
 caches := Try.underlying28
 cache := ⟨_, _, _, _, _, _, Try.underlying45, by kernel_rfl, rfl, rfl, rfl, rfl, rfl, rfl⟩
 ccell := by kernel_rfl
 cbytes := by kernel_rfl
 strs := Try.underlying42
 str := Try.underlying9
 scell := by kernel_rfl
 sbytes := by kernel_rfl
 slabs := Try.underlying43
 slab := ⟨_, _, _, Try.underlying49, by kernel_rfl, rfl, rfl, rfl⟩
 lcell := by kernel_rfl
 lbytes := by kernel_rfl
theorem makes_of {P : Program} {t e : TypeId} {k b : Nat} (ht : P.underlying t = some (.slice e)) (hi : (P.info? e).map (fun i => (i.zero.isSome, i.size, i.bytes)) = some (true, k, b)) {n : Nat} (hb : b * n ≤ 281474976710656) (hm : n ≤ maxLen) : Makes P t e n k := by
 cases hq : P.info? e with
 | none => simp [hq] at hi
 | some i =>
  simp only [hq, Option.map_some, Option.some.injEq, Prod.mk.injEq] at hi
  obtain ⟨hz, hs, hbb⟩ := hi
  obtain ⟨z, hz⟩ := Option.isSome_iff_exists.1 hz
  subst hs hbb
  exact made_b ht hq hz n hb hm
theorem makes_strs {n : Nat} (h : n * 16 ≤ 140737488351232) : Makes Try.prog 42 9 n 1 := makes_of (b := 16) Try.underlying42 (by kernel_rfl) (by omega) (by unfold maxLen; omega)
theorem makes_slabs {n : Nat} (h : n * 24 ≤ 140737488351232) : Makes Try.prog 43 49 n 3 := makes_of (b := 24) Try.underlying43 (by kernel_rfl) (by omega) (by unfold maxLen; omega)
theorem makes_ints {n : Nat} (h : n * 8 ≤ 140737488351232) : Makes Try.prog 22 3 n 1 := makes_of (b := 8) Try.underlying22 (by kernel_rfl) (by omega) (by unfold maxLen; omega)
theorem makes_caches {n : Nat} (h : n * 96 ≤ 140737488351232) : Makes Try.prog 28 45 n 6 := makes_of (b := 96) Try.underlying28 (by kernel_rfl) (by omega) (by unfold maxLen; omega)
theorem blks_src {w : World} {ao : Option Addr} {n : Nat} {l : List Bk} (h : Blks w ao n l) (h0 : 0 < n) : ∃ ad, ao = some ad ∧ ∀ j v, (bvals l)[j]? = some v → w.cell? (ad.add j) = some v := bsrc_of h.at_ (by rw [h.len]; exact h0)
theorem nums_src {w : World} {ao : Option Addr} {n : Nat} {l : List Int} (h : Nums w ao n l) (h0 : 0 < n) : ∃ ad, ao = some ad ∧ ∀ j v, (vals l)[j]? = some v → w.cell? (ad.add j) = some v := src_of h.at_ (by rw [h.len]; exact h0)
end Go.Proofs.Ytnijjpakpphhhaa
namespace Go.Proofs.Ytnijjpakpphhhaa.Kit
open Go Go.RowKit
structure Row (w : World) (e : TypeId) (size g cap : Nat) (cur : List Value) : Prop where
 h : w.heap[g]? = some (.cells cur.toArray e (0, 0))
 len : cur.length = cap * size
 m : cap ≤ maxLen
theorem Row.lt {w : World} {e : TypeId} {size g cap : Nat} {cur : List Value} (h : Row w e size g cap cur) : g < w.heap.size := (Array.getElem?_eq_some_iff.1 h.h).1
theorem Row.but {w w' : World} {e : TypeId} {size g cap c : Nat} {cur : List Value} (h : Row w e size g cap cur) (hb : But c w w') (hne : g ≠ c) : Row w' e size g cap cur :=
 ⟨(hb.block g h.lt hne).trans h.h, h.len, h.m⟩
theorem Row.below {w w' : World} {e : TypeId} {size g cap : Nat} {cur : List Value} (h : Row w e size g cap cur) (hb : Below w.heap.size w w') : Row w' e size g cap cur :=
 ⟨(hb.block g h.lt).trans h.h, h.len, h.m⟩
theorem Row.cell {w : World} {e : TypeId} {size g cap : Nat} {cur : List Value} (h : Row w e size g cap cur) (j : Nat) : w.cell? ⟨g, j, none⟩ = cur[j]? := by
 simp [World.cell?, h.h]
theorem Row.fz {w : World} {e : TypeId} {size g cap : Nat} {cur : List Value} (h : Row w e size g cap cur) (j : Nat) : w.frozen? ⟨g, j, none⟩ = false := by
 simp [World.frozen?, h.h]
theorem add_at (g o j : Nat) : (⟨g, o, none⟩ : Addr).add j = ⟨g, o + j, none⟩ := by unfold Addr.add; split <;> simp_all
theorem Row.of {w : World} {base : Nat} {e : TypeId} {size g n cap : Nat} {xs : List Value} (h : w.ownsRow base e size (.slice (some ⟨g, 0, none⟩) n cap) n xs) :
    base ≤ g ∧ n ≤ cap ∧ ∃ cur, Row w e size g cap cur ∧ cur.take (n * size) = xs := by
 rcases h.2 with ⟨h', _⟩ | ⟨g', cap', cur, h', hb, hg, hn, hm, hs, htake⟩
 ·cases h'
 ·simp only [Value.slice.injEq, Option.some.injEq, Addr.mk.injEq, and_true, true_and] at h'
  obtain ⟨rfl, rfl⟩ := h'
  exact ⟨hb, hn, cur.toList, ⟨by simpa using hg, by simpa using hs, hm⟩, htake⟩
theorem Row.owns {w : World} {base : Nat} {e : TypeId} {size g n cap : Nat} {cur xs : List Value} (h : Row w e size g cap cur) (hb : base ≤ g) (hn : n ≤ cap) (ht : cur.take (n * size) = xs) :
    w.ownsRow base e size (.slice (some ⟨g, 0, none⟩) n cap) n xs := by
 refine ⟨?_, .inr ⟨g, cap, cur.toArray, rfl, hb, h.h, hn, h.m, by simpa using h.len, by simpa using ht⟩⟩
 rw [← ht, List.length_take, h.len, Nat.min_eq_left (Nat.mul_le_mul_right _ hn)]
theorem splice_take {α : Type} {L cs : List α} {off n : Nat} (h : n ≤ off) (hl : off ≤ L.length) : (splice L off cs).take n = L.take n := by
 unfold splice
 rw [List.take_append_of_le_length (by simp; omega), List.take_take, Nat.min_eq_left h]
theorem step_append_fits {P : Program} {ops : Array Oper} {o : Oper} {a : Act} {w : World} {K : Act → World → Prop} {Q : Exit → Act → World → Prop} {E : Prop}
    (hg : o.guard = none) (s x : Operand) (t : TypeId) (hop : o.op = Op.call { callee := Callee.builtin Builtin.append, args := #[s, x], argTypes := #[t, t] })
    (e : TypeId) (i : TypeInfo) (size : Nat) (h1 : P.underlying t = some (.slice e)) (h2 : P.info? e = some i) (h4 : i.size = size)
    (base g n cap : Nat) (xs : List Value) (hs : a.eval s = .slice (some ⟨g, 0, none⟩) n cap) (hown : w.ownsRow base e size (.slice (some ⟨g, 0, none⟩) n cap) n xs)
    (xo : Option Addr) (m c : Nat) (news : List Value) (hx : a.eval x = .slice xo m c) (hn : news.length = m * size) (hxo : ∃ ad, xo = some ad ∧ ∀ j u, news[j]? = some u → w.cell? (ad.add j) = some u) (h1c : ∀ u ∈ news, u.oneCell' = true)
    (N : Nat) (hN : n + m = N) (hroom : N ≤ cap)
    (hK : ∀ w', w'.ownsRow base e size (.slice (some ⟨g, 0, none⟩) N cap) N (xs ++ news) → But g w w' → K (a.put o.dst (.slice (some ⟨g, 0, none⟩) N cap)) w') :
    if Region.wanted o (yielded ops a.tmps) = true then Oper.wp P o a w K Q else E := by
 have hw : Region.wanted o (yielded ops a.tmps) = true := by simp [Region.wanted, hg]
 rw [if_pos hw]
 subst hN
 obtain ⟨ad, rfl, hc⟩ := hxo
 obtain ⟨w', hrun, r1, r2⟩ := run_append_fits (P := P) w base t o.type e i size h1 h2 h4 g n cap xs hown ad m c news hn hc h1c hroom
 unfold Oper.wp
 simp [execOp, hop, resolve, invoke, builtin, hs, hx, hrun, Result.andThen]
 exact hK w' r1 ⟨r2.os, r2.tape, r2.output, r2.size, fun k hk hne => r2.block k hk (by intro g; exact hne (by simpa using g))⟩
theorem step_copy_k {P : Program} {ops : Array Oper} {o : Oper} {a : Act} {w : World} {K : Act → World → Prop} {Q : Exit → Act → World → Prop} {E : Prop} (hgd : o.guard = none) (d s : Operand) (dT sT : TypeId)
    (ho : o.op = .call { callee := .builtin .copy, args := #[d, s], argTypes := #[dT, sT] }) (elem : TypeId) (k : Nat) (hu : P.underlying dT = some (.slice elem)) (hsz : (P.info? elem).map (·.size) = some k)
    (dp sp : Option Addr) (dLen dCap sLen sCap : Nat) (hd : a.eval d = .slice dp dLen dCap) (hs : a.eval s = .slice sp sLen sCap)
    (g off : Nat) (cur : List Value) (t : TypeId) (hg : w.heap[g]? = some (.cells cur.toArray t (0, 0))) (cs : List Value) (m : Nat) (hm : Nat.min sLen dLen = m) (hn : cs.length = m * k)
    (hpos : 0 < m → dp = some ⟨g, off, none⟩ ∧ ∃ ad, sp = some ad ∧ ∀ j v, cs[j]? = some v → w.cell? (ad.add j) = some v)
    (hfit : off + cs.length ≤ cur.length) (h1 : ∀ v ∈ cs, v.oneCell' = true)
    (h : ∀ w', Hid (w'.heap[g]? = some (.cells (splice cur off cs).toArray t (0, 0))) → But g w w' → K (a.put o.dst (goInt m)) w') :
    if Region.wanted o (yielded ops a.tmps) = true then Oper.wp P o a w K Q else E := by
 have hw : Region.wanted o (yielded ops a.tmps) = true := by simp [Region.wanted, hgd]
 rw [if_pos hw]
 by_cases h0 : m = 0
 ·subst h0
  obtain rfl : cs = [] := List.eq_nil_of_length_eq_zero (by simpa using hn)
  have hrun := run_copy_none_k (P := P) w dT sT o.type elem k dp sp dLen dCap sLen sCap hu hsz hm
  unfold Oper.wp
  simp [execOp, ho, resolve, invoke, builtin, hd, hs, hrun, Result.andThen]
  exact h w (show _ = _ by simpa [splice] using hg) (But.refl _ _)
 ·obtain ⟨rfl, ad, rfl, hsrc⟩ := hpos (by omega)
  have hrun := run_copy_row_k (P := P) w dT sT o.type elem k g off dLen dCap ad sLen sCap cur.toArray t cs hu hsz hg (by rw [hm]; exact hn) hsrc (by simpa using hfit) h1
  rw [hm] at hrun
  unfold Oper.wp
  simp [execOp, ho, resolve, invoke, builtin, hd, hs, hrun, Result.andThen]
  exact h _ (show _ = _ by simpa [splice] using setRow_heap w g _ _ t _ hg) (by simpa using but_setRow w g _)
theorem wpList_clear_k {P : Program} {w : World} {ops : Array Oper} {rest : List Oper} {o : Oper} {a : Act} {Q : Exit → Act → World → Prop} (hgd : o.guard = none) (s : Operand) (t : TypeId)
    (ho : o.op = .call { callee := .builtin .clear, args := #[s], argTypes := #[t] }) (e : TypeId) (z : Value) (k : Nat) (hu : P.underlying t = some (.slice e)) (hv : ∀ w, (zeroValue e).run P w = .ok z w) (hz : z.cells.size = k) (h1 : ∀ v ∈ z.cells, v.oneCell' = true)
    (sp : Option Addr) (n c : Nat) (hs : a.eval s = .slice sp n c) (g off : Nat) (cur : List Value) (hg : w.heap[g]? = some (.cells cur.toArray e (0, 0))) (hpos : 0 < n → sp = some ⟨g, off, none⟩) (hfit : off + n * k ≤ cur.length)
    (h : ∀ (w' : World) (cur' : List Value), Hid (w'.heap[g]? = some (.cells cur'.toArray e (0, 0)) ∧ cur'.length = cur.length ∧ cur'.take off = cur.take off) → But g w w' → wpList P ops Q rest (a.put o.dst (.tuple #[])) w') :
    wpList P ops Q (o :: rest) a w := by
 by_cases h0 : n = 0
 ·subst h0
  refine wpList_plain hgd fun K hK => ?_
  have hrun : (Builtin.clear_ #[t] o.type #[.slice sp 0 c]).run P w = .ok (.tuple #[]) w := by
   cases sp <;> simp [Builtin.clear_, run_underlying hu]
  unfold Oper.wp
  simp [execOp, ho, resolve, invoke, builtin, hs, hrun, Result.andThen]
  exact hK _ _ (h w cur ⟨hg, rfl, rfl⟩ (But.refl _ _))
 ·obtain rfl := hpos (by omega)
  refine wpList_plain hgd fun K hK => ?_
  obtain ⟨zs, hzs⟩ : ∃ zs, (Builtin.zeroCells z.cells n).toList = zs := ⟨_, rfl⟩
  have hzl : zs.length = n * k := by rw [← hzs, Array.length_toList, size_zeroCells, hz]
  have hz1 : ∀ v ∈ zs, v.oneCell' = true := by
   intro v hv'
   rw [← hzs] at hv'
   obtain ⟨j, hj, rfl⟩ := List.getElem_of_mem hv'
   have hk : 0 < z.cells.size := by
    rcases Nat.eq_zero_or_pos z.cells.size with g | g
    ·rw [Array.length_toList, size_zeroCells, g] at hj; omega
    ·exact g
   simp only [Array.getElem_toList, Builtin.zeroCells, Array.getElem_map, Array.getElem_range]
   rw [getElem!_pos z.cells _ (Nat.mod_lt _ hk)]
   exact h1 _ (Array.getElem_mem _)
  have hst := run_storeCells_at P g off e zs 0 cur.toArray w hg (by simp; omega) hz1
  have hrun : (Builtin.clear_ #[t] o.type #[.slice (some ⟨g, off, none⟩) n c]).run P w = .ok (.tuple #[]) (w.setRow g (cur.take off ++ zs ++ cur.drop (off + zs.length)).toArray) := by
   obtain ⟨m, rfl⟩ : ∃ m, n = m + 1 := ⟨n - 1, by omega⟩
   simp only [Nat.add_zero] at hst
   simp [Builtin.clear_, run_underlying hu, hv, hzs, hst]
  unfold Oper.wp
  simp [execOp, ho, resolve, invoke, builtin, hs, hrun, Result.andThen]
  refine hK _ _ (h _ (cur.take off ++ zs ++ cur.drop (off + zs.length)) ⟨?_, ?_, ?_⟩ ?_)
  ·simpa using setRow_heap w g _ _ e _ hg
  ·simp; omega
  ·rw [List.append_assoc, List.take_append_of_le_length (by simp; omega), List.take_take, Nat.min_self]
  ·simpa using but_setRow w g _
end Go.Proofs.Ytnijjpakpphhhaa.Kit
