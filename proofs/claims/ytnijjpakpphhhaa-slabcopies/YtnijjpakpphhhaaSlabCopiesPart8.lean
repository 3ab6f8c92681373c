/-
  OWN TEXTS, bundled: Sxg, SxJ, Sxa, Sxa3, ManyH.
-/
import Derived.Test.YtnijjpakpphhhaaSlabCopiesPart5
import Derived.Test.YtnijjpakpphhhaaSlabCopiesPart4

/-
  OWN TEXT. A region that draws its order and whose operations make memory: each keeps what the others made; over whatever program.
-/
namespace Go.Proofs.Ytnijjpakpphhhaa.Kit
open Go Go.RowKit

theorem Fr.more {A : Act} {N d : Nat} {L : List (Nat × Value)} {v : Value} (f : Fr A N L) (h : A.tmps.getD d undef = v) : Fr A N ((d, v) :: L) := by
  refine ⟨f.size, f.defs, fun i u g => ?_⟩
  unfold look at g
  cases hb : Nat.beq d i with
  | true =>
    simp only [hb, cond_true, Option.some.injEq] at g
    have e := Nat.eq_of_beq_eq_true hb
    subst e
    rw [h, g]
  | false =>
    simp only [hb, cond_false] at g
    exact f.at_ i u g
theorem Fr.off {A : Act} {N d : Nat} {L : List (Nat × Value)} (f : Fr A N L) (v : Value) (hd : d < N) (h : look L d = none) : Fr (A.put (some d) v) N L := by
  have g := f.put d v hd
  refine ⟨g.size, g.defs, fun i u hi => g.at_ i u ?_⟩
  unfold look
  cases hb : Nat.beq d i with
  | true =>
    have e := Nat.eq_of_beq_eq_true hb
    subst e
    rw [h] at hi
    cases hi
  | false => simpa [hb] using hi

abbrev VW := Value → List Value → World → Prop
def rOf (Rs : List VW) (j : Nat) (v : Value) (vs : List Value) (w : World) : Prop :=
  match Rs[j]? with
  | some r => r v vs w
  | none => True
def blkOf : Value → Option Nat
  | .slice (some a) _ _ => some a.block
  | .pointer (some a) => some a.block
  | _ => none
/-- The slot of operation j. -/
def slotV (l : List Oper) (a : Act) (j : Nat) : Value := a.tmps.getD (((l[j]?).bind (·.dst)).getD 0) undef
/-- In which block lies what the fresh operation j made. -/
def slotB (l : List Oper) (Fs : List Nat) (a : Act) (j : Nat) : Option Nat := bif memN Fs j then blkOf (slotV l a j) else none

/-- Operation i, whose slot is d. -/
def okB (l : List Oper) (L0 : List (Nat × Value)) (N i : Nat) : Bool :=
  match l[i]? with
  | some o => match o.dst with
    | some d => o.guard.isNone && Nat.blt d N && (look L0 d).isNone && (o.after.all fun e => !Region.binds .any e || decide (e.on < i)) && (List.range i).all fun j => !(((l[j]?).bind (·.dst)) == some d)
    | none => false
  | none => false
def growB (l : List Oper) (L0 : List (Nat × Value)) (N : Nat) : Bool := (List.range l.length).all (okB l L0 N)
def depsOf (o : Oper) : List Nat := (o.after.toList.filter (Region.binds .any)).map (·.on)
def depsAt (l : List Oper) (j : Nat) : List Nat :=
  match l[j]? with
  | some o => depsOf o
  | none => []
def allP (Φ : Nat → Prop) : List Nat → Prop
  | [] => True
  | j :: r => Φ j ∧ allP Φ r
theorem allP_of {Φ : Nat → Prop} : ∀ (l : List Nat), (∀ j ∈ l, Φ j) → allP Φ l
  | [], _ => trivial
  | j :: r, h => ⟨h j List.mem_cons_self, allP_of r fun k hk => h k (List.mem_cons_of_mem _ hk)⟩
def allO (Φ : Nat → Oper → Prop) : Nat → List Oper → Prop
  | _, [] => True
  | k, o :: r => Φ k o ∧ allO Φ (k + 1) r
theorem allO_at {Φ : Nat → Oper → Prop} : ∀ (l : List Oper) (k : Nat), allO Φ k l → ∀ i o, l[i]? = some o → Φ (k + i) o
  | [], _, _, i, o, h => by simp at h
  | p :: r, k, h, 0, o, g => by simp at g; subst g; exact h.1
  | p :: r, k, h, i + 1, o, g => by
    have := allO_at r (k + 1) h.2 i o (by simpa using g)
    rw [show k + (i + 1) = k + 1 + i by omega]; exact this

section
variable {P : Program} {l : List Oper} {Q : Exit → Act → World → Prop} {S : World → Prop} {N : Nat} {L0 : List (Nat × Value)} {Rs : List VW} {Fs : List Nat}

/-- What one operation must do. -/
def stepG' (P : Program) (l : List Oper) (Q : Exit → Act → World → Prop) (S : World → Prop) (N : Nat) (L0 : List (Nat × Value)) (Rs : List VW) (Fs : List Nat) (i : Nat) (o : Oper) : Prop :=
  ∀ a w, S w → Fr a N L0 → allP (fun j => rOf Rs j (slotV l a j) ((depsAt l j).map (slotV l a)) w) (depsOf o) →
    ∀ K : Act → World → Prop, (∀ v w', Below w.heap.size w w' → rOf Rs i v ((depsOf o).map (slotV l a)) w' → (∀ b, (bif memN Fs i then blkOf v else none) = some b → w.heap.size ≤ b ∧ b < w'.heap.size) → K (a.put o.dst v) w') → o.wp P a w K Q

structure GI (S : World → Prop) (N : Nat) (L0 : List (Nat × Value)) (l : List Oper) (Rs : List VW) (Fs : List Nat) (listed : Array Bool) (a : Act) (w : World) : Prop where
  s : S w
  f : Fr a N L0
  r : ∀ j, listed.getD j false = true → rOf Rs j (slotV l a j) ((depsAt l j).map (slotV l a)) w
  c : ∀ j, listed.getD j false = true → ∀ k ∈ depsAt l j, listed.getD k false = true
  b : ∀ j b, listed.getD j false = true → slotB l Fs a j = some b → b < w.heap.size
  d : ∀ j k b c, listed.getD j false = true → listed.getD k false = true → j ≠ k → slotB l Fs a j = some b → slotB l Fs a k = some c → b ≠ c

theorem ok_spec (hB : growB l L0 N = true) {i : Nat} (hi : i < l.length) : ∃ o d, l[i]? = some o ∧ o.dst = some d ∧ o.guard = none ∧ d < N ∧ look L0 d = none ∧ (∀ e ∈ o.after, Region.binds .any e = true → e.on < i) ∧ ∀ j, j < i → (l[j]?).bind (·.dst) ≠ some d := by
  have h := List.all_eq_true.1 hB i (List.mem_range.2 hi)
  unfold okB at h
  have ho : l[i]? = some l[i] := List.getElem?_eq_getElem hi
  rw [ho] at h
  simp only at h
  cases hd : (l[i]).dst with
  | none => rw [hd] at h; cases h
  | some d =>
    rw [hd] at h
    simp only [Bool.and_eq_true, Option.isNone_iff_eq_none, Nat.blt_eq] at h
    obtain ⟨⟨⟨⟨h1, h2⟩, h3⟩, h4⟩, h5⟩ := h
    refine ⟨_, d, ho, hd, h1, h2, h3, fun e he hb => ?_, fun j hj => ?_⟩
    · have := (Array.all_eq_true'.1 h4) e he
      simpa [hb] using this
    · have := List.all_eq_true.1 h5 j (List.mem_range.2 hj)
      simpa using this
theorem slot_ne (hB : growB l L0 N = true) {i j d : Nat} {o : Oper} (hi : l[i]? = some o) (hd : o.dst = some d) (hj : j < l.length) (hne : j ≠ i) (a : Act) (v : Value) : slotV l (a.put (some d) v) j = slotV l a j := by
  have hil : i < l.length := (List.getElem?_eq_some_iff.1 hi).1
  obtain ⟨oj, dj, hoj, hdj, _, _, _, _, hej⟩ := ok_spec hB hj
  obtain ⟨oi, di, hoi, hdi, _, _, _, _, hei⟩ := ok_spec hB hil
  rw [hi] at hoi
  cases hoi
  rw [hd] at hdi
  cases hdi
  have hdd : dj ≠ d := by
    intro e
    subst e
    rcases Nat.lt_or_gt_of_ne hne with h | h
    · exact hei j h (by rw [hoj]; exact hdj)
    · exact hej i h (by rw [hi]; exact hd)
  unfold slotV
  rw [hoj]
  simp only [Option.bind_some, hdj, Option.getD_some]
  simp [Act.put, Array.getD_eq_getD_getElem?, Ne.symm hdd]
theorem slot_eq {a : Act} {i d : Nat} {o : Oper} (f : Fr a N L0) (hi : l[i]? = some o) (hd : o.dst = some d) (hN : d < N) (v : Value) : slotV l (a.put (some d) v) i = v := by
  unfold slotV
  rw [hi]
  have hs := f.size
  simp [hd, Act.put, Array.getD_eq_getD_getElem?, hs, hN]

theorem all_of_empty' (hB : growB l L0 N = true) {listed : Array Bool} (hl : listed.size = l.length) (hr : Region.ready .any l.toArray listed = []) : ∀ i, i < l.length → listed.getD i false = true := by
  intro i
  induction i using Nat.strongRecOn with
  | _ i ih =>
    intro hi
    cases hg : listed.getD i false with
    | true => rfl
    | false =>
      exfalso
      obtain ⟨o, d, ho, _, _, _, _, he, _⟩ := ok_spec hB hi
      have hm : i ∈ Region.ready .any l.toArray listed := by
        rw [mem_ready]
        refine ⟨o, by simpa using ho, ?_, fun e hm hb => ?_⟩
        · simp only [Array.getD_eq_getD_getElem?, Array.getElem?_eq_getElem (show i < listed.size by omega), Option.getD_some] at hg ⊢
          exact hg
        · have := he e hm hb
          exact ih e.on this (by omega)
      rw [hr] at hm
      cases hm

def leftN (l : Array Bool) : Nat := l.toList.countP (fun b => !b)
theorem leftN_set {l : Array Bool} {i : Nat} (hi : l[i]? = some false) : leftN (l.setIfInBounds i true) + 1 = leftN l := by
  rcases l with ⟨l⟩
  have hi' : l[i]? = some false := by simpa using hi
  unfold leftN
  simp only [List.setIfInBounds_toArray]
  clear hi
  induction l generalizing i with
  | nil => simp at hi'
  | cons b l ih =>
    cases i with
    | zero =>
      simp only [List.getElem?_cons_zero, Option.some.injEq] at hi'
      subst hi'
      simp
    | succ i =>
      have := ih (by simpa using hi')
      simp only [List.set_cons_succ, List.countP_cons]
      omega
theorem getD_set_eq {l : Array Bool} {i : Nat} (h : i < l.size) (d : Bool) : (l.setIfInBounds i true).getD i d = true := by
  simp [Array.getD_eq_getD_getElem?, h]
theorem getD_set_other {l : Array Bool} {i j : Nat} (h : i ≠ j) (d : Bool) : (l.setIfInBounds i true).getD j d = l.getD j d := by
  simp [Array.getD_eq_getD_getElem?, h]

theorem wpAny_grow (hB : growB l L0 N = true) (hS : ∀ w w', S w → Below w.heap.size w w' → S w') (hR : ∀ j v vs w w', rOf Rs j v vs w → Below w.heap.size w w' → rOf Rs j v vs w')
    (hop : ∀ i o, l[i]? = some o → stepG' P l Q S N L0 Rs Fs i o)
    (hend : ∀ a w, GI S N L0 l Rs Fs (Array.replicate l.length true) a w → Q .normal a w) :
    ∀ (fuel : Nat) (listed : Array Bool) (a : Act) (w : World), listed.size = l.length → leftN listed ≤ fuel → GI S N L0 l Rs Fs listed a w → wpAny P .any l.toArray Q fuel listed a w := by
  have hfin : ∀ (listed : Array Bool) (a : Act) (w : World), listed.size = l.length → GI S N L0 l Rs Fs listed a w → Region.ready .any l.toArray listed = [] → Q .normal a w := by
    intro listed a w hl hI hr
    have hall := all_of_empty' hB hl hr
    have : listed = Array.replicate l.length true := by
      apply Array.ext_getElem?
      intro i
      by_cases hi : i < l.length
      · have := hall i hi
        simp only [Array.getD_eq_getD_getElem?, Array.getElem?_eq_getElem (show i < listed.size by omega), Option.getD_some] at this
        rw [Array.getElem?_eq_getElem (by omega), this]
        simp [hi]
      · rw [Array.getElem?_eq_none (by omega), Array.getElem?_eq_none (by simp; omega)]
    subst this
    exact hend a w hI
  have hstep : ∀ (listed : Array Bool) (a : Act) (w : World) (i : Nat), listed.size = l.length → GI S N L0 l Rs Fs listed a w → i ∈ Region.ready .any l.toArray listed →
      listed[i]? = some false ∧ ∀ K : Act → World → Prop, (∀ a' w', GI S N L0 l Rs Fs (listed.setIfInBounds i true) a' w' → K a' w') → wpOp P l.toArray Q i K a w := by
    intro listed a w i hl hI hi
    obtain ⟨o, ho, hun, hdep⟩ := mem_ready.1 hi
    have ho' : l[i]? = some o := by simpa using ho
    have hil : i < l.length := (List.getElem?_eq_some_iff.1 ho').1
    obtain ⟨o2, d, ho2, hd, hg, hN, hlk, _, _⟩ := ok_spec hB hil
    rw [ho'] at ho2
    cases ho2
    have hfal : listed[i]? = some false := by
      simp only [Array.getD_eq_getD_getElem?, Array.getElem?_eq_getElem (show i < listed.size by omega), Option.getD_some] at hun ⊢
      rw [hun]
    refine ⟨hfal, fun K hK => ?_⟩
    unfold wpOp
    rw [ho]
    simp only
    rw [if_pos (by simp [Region.wanted, hg])]
    left
    refine hop i o ho' a w hI.s hI.f (allP_of _ fun j hj => ?_) K ?_
    · unfold depsOf at hj
      simp only [List.mem_map, List.mem_filter, Array.mem_toList_iff] at hj
      obtain ⟨e, ⟨he, hb⟩, rfl⟩ := hj
      exact hI.r _ (hdep e he hb)
    · intro v w' hbw hrv hbk
      refine hK _ _ ?_
      rw [hd]
      have hun' : listed.getD i false = false := by simp [Array.getD_eq_getD_getElem?, hfal]
      have hne : ∀ j, (listed.setIfInBounds i true).getD j false = true → j ≠ i → listed.getD j false = true ∧ j < l.length := by
        intro j hj hji
        rw [getD_set_other (Ne.symm hji)] at hj
        refine ⟨hj, ?_⟩
        by_cases h : j < l.length
        · exact h
        · rw [Array.getD_eq_getD_getElem?, Array.getElem?_eq_none (by omega)] at hj
          cases hj
      have hsv := slot_eq (l := l) hI.f ho' hd hN v
      have hso : ∀ j, j < l.length → j ≠ i → slotV l (a.put (some d) v) j = slotV l a j := fun j h1 h2 => slot_ne hB ho' hd h1 h2 a v
      have hdl : ∀ k ∈ depsAt l i, listed.getD k false = true := by
        intro k hk
        unfold depsAt at hk
        rw [ho'] at hk
        simp only [depsOf, List.mem_map, List.mem_filter, Array.mem_toList_iff] at hk
        obtain ⟨e, ⟨he, hb⟩, rfl⟩ := hk
        exact hdep e he hb
      have hlt : ∀ k, listed.getD k false = true → k < l.length := by
        intro k hk
        by_cases h : k < l.length
        · exact h
        · rw [Array.getD_eq_getD_getElem?, Array.getElem?_eq_none (by omega)] at hk
          cases hk
      have hmap : ∀ j, (∀ k ∈ depsAt l j, listed.getD k false = true) → (depsAt l j).map (slotV l (a.put (some d) v)) = (depsAt l j).map (slotV l a) := by
        intro j hj
        refine List.map_congr_left fun k hk => ?_
        have hkl := hj k hk
        refine hso k (hlt k hkl) ?_
        intro e
        rw [e, hun'] at hkl
        cases hkl
      refine ⟨hS _ _ hI.s hbw, hI.f.off v hN hlk, fun j hj => ?_, fun j hj k hk => ?_, fun j b hj hb => ?_, fun j k b c hj hk hjk hb hc => ?_⟩
      · by_cases e : j = i
        · subst e
          rw [hsv, hmap _ hdl]
          unfold depsAt
          rw [ho']
          exact hrv
        · obtain ⟨h1, h2⟩ := hne j hj e
          rw [hso j h2 e, hmap j (hI.c j h1)]
          exact hR _ _ _ _ _ (hI.r j h1) hbw
      · by_cases e : k = i
        · rw [e]; exact getD_set_eq (by omega) false
        · rw [getD_set_other (Ne.symm e)]
          by_cases e' : j = i
          · rw [e'] at hk; exact hdl k hk
          · exact hI.c j (hne j hj e').1 k hk
      · unfold slotB at hb
        by_cases e : j = i
        · subst e; rw [hsv] at hb; exact (hbk b hb).2
        · obtain ⟨h1, h2⟩ := hne j hj e
          rw [hso j h2 e] at hb
          have := hI.b j b h1 hb
          have := hbw.size
          omega
      · unfold slotB at hb hc
        by_cases e : j = i
        · subst e
          rw [hsv] at hb
          obtain ⟨h1, h2⟩ := hne k hk (Ne.symm hjk)
          rw [hso k h2 (Ne.symm hjk)] at hc
          have h3 := (hbk b hb).1
          have h4 := hI.b k c h1 hc
          omega
        · obtain ⟨h1, h2⟩ := hne j hj e
          rw [hso j h2 e] at hb
          by_cases e' : k = i
          · subst e'
            rw [hsv] at hc
            have h3 := (hbk c hc).1
            have h4 := hI.b j b h1 hb
            omega
          · obtain ⟨h5, h6⟩ := hne k hk e'
            rw [hso k h6 e'] at hc
            exact hI.d j k b c h1 h5 hjk hb hc
  intro fuel
  induction fuel with
  | zero =>
    intro listed a w hl hc hI
    have hr : Region.ready .any l.toArray listed = [] := by
      rw [List.eq_nil_iff_forall_not_mem]
      intro i hi
      have := leftN_set (hstep listed a w i hl hI hi).1
      omega
    exact ⟨hr, hfin listed a w hl hI hr⟩
  | succ n ih =>
    intro listed a w hl hc hI
    refine ⟨fun hr => hfin listed a w hl hI hr, fun i hi => ?_⟩
    obtain ⟨h1, h2⟩ := hstep listed a w i hl hI hi
    refine h2 _ fun a' w' hI' => ih _ a' w' (by simpa using hl) ?_ hI'
    have := leftN_set h1
    omega

theorem gi_start {A : Act} {w : World} (f : Fr A N L0) (hs : S w) : GI S N L0 l Rs Fs (Array.replicate l.length false) A w := by
  have hno : ∀ j, (Array.replicate l.length false).getD j false = false := by
    intro j
    by_cases h : j < l.length <;> simp [Array.getD_eq_getD_getElem?, h]
  exact ⟨hs, f, fun j hj => False.elim (by rw [hno] at hj; cases hj), fun j hj => False.elim (by rw [hno] at hj; cases hj), fun j b hj => False.elim (by rw [hno] at hj; cases hj), fun j k b c hj => False.elim (by rw [hno] at hj; cases hj)⟩

theorem left_start (n : Nat) : leftN (Array.replicate n false) ≤ n := by
  unfold leftN
  have := List.countP_le_length (p := fun b => !b) (l := (Array.replicate n false).toList)
  simpa using this

/-- The region. -/
theorem sx_grow {id : Nat} {A : Act} {w : World} (Rs : List VW) (Fs : List Nat) (S : World → Prop) (f : Fr A N L0) (hm : P.follows .mixedOrders = true) (hB : growB l L0 N = true) (hS : ∀ w w', S w → Below w.heap.size w w' → S w') (hR : ∀ j v vs w w', rOf Rs j v vs w → Below w.heap.size w w' → rOf Rs j v vs w')
    (h0 : S { w with drawn := w.drawn + 1 }) (hop : allO (stepG' P l Q S N L0 Rs Fs) 0 l)
    (hend : ∀ a w, GI S N L0 l Rs Fs (Array.replicate l.length true) a w → Q .normal a w) : (Code.region id l.toArray true).wp P Q A w := by
  refine wp_region_any hm ?_
  have := wpAny_grow hB hS hR (fun i o hi => by have := allO_at l 0 hop i o hi; rwa [Nat.zero_add] at this) hend l.toArray.size (Array.replicate l.length false) A { w with drawn := w.drawn + 1 } (by simp) (by simpa using left_start l.length) (gi_start f h0)
  simpa using this
/-- The region, its last operation waits for all others. -/
theorem sx_growl {id n : Nat} {o : Oper} {A : Act} {w : World} (Rs : List VW) (Fs : List Nat) (S : World → Prop) (f : Fr A N L0) (hm : P.follows .mixedOrders = true) (hp : peelB .any l n = true) (ho : l[n]? = some o) (hB : growB (l.take n) L0 N = true) (hS : ∀ w w', S w → Below w.heap.size w w' → S w') (hR : ∀ j v vs w w', rOf Rs j v vs w → Below w.heap.size w w' → rOf Rs j v vs w')
    (h0 : S { w with drawn := w.drawn + 1 }) (hop : allO (stepG' P (l.take n) (lastQ P o Q) S N L0 Rs Fs) 0 (l.take n))
    (hend : ∀ a w, GI S N L0 (l.take n) Rs Fs (Array.replicate (l.take n).length true) a w → lastQ P o Q .normal a w) : (Code.region id l.toArray true).wp P Q A w := by
  refine wp_region_any hm ?_
  have h1 := (peel_spec hp).1
  have hn : (l.take n).length = n := by simp; omega
  have hg := wpAny_grow (P := P) (Q := lastQ P o Q) hB hS hR (fun i o hi => by have := allO_at (l.take n) 0 hop i o hi; rwa [Nat.zero_add] at this) hend n (Array.replicate n false) A { w with drawn := w.drawn + 1 } (by simp [hn]) (left_start n) (by have := gi_start (l := l.take n) (Rs := Rs) (Fs := Fs) f h0; rwa [hn] at this)
  have := wpAny_peel hp ho n (Array.replicate n false) A { w with drawn := w.drawn + 1 } (by simp) (fun j oj hj _ hg => by simp [Array.getD_eq_getD_getElem?, hj] at hg) hg
  have e : (Array.replicate n false).push false = Array.replicate l.toArray.size false := by
    rw [List.size_toArray, h1, Array.replicate_succ]
  rw [e] at this
  rw [List.size_toArray, h1]
  rw [List.size_toArray, h1] at this
  exact this
/-! One operation. -/
variable {a : Act} {w : World} {L : List (Nat × Value)} {o : Oper} {K : Act → World → Prop}
theorem g_val {v : Value} (f : Fr a N L) (hy : YC P (ClB w) L o v) (h : K (a.put o.dst v) w) : o.wp P a w K Q := by
  unfold Oper.wp
  rw [hy a.eval (fun x u hu => f.ev hu) w (Below.refl _ _), Oper.upon_value]
  exact h
theorem g_call {g : FuncId} {args : List Value} {R : Ending → World → Prop} (f : Fr a N L) (hc : IsCall L o g args) (hp : Plain P g) (hR : Calls P g args.toArray w R) (h : ∀ e w', R e w' → ∃ v, e = .returned v ∧ K (a.put o.dst v) w') : o.wp P a w K Q := by
  unfold Oper.wp
  rw [hc.run hp (fun x u hu => f.ev hu) w, Oper.upon_enter]
  refine hR.mono fun e w' he => ?_
  obtain ⟨v, rfl, hk⟩ := h e w' he
  exact hk
theorem g_alloc {t : TypeId} {z : Value} (ho : o.op = .alloc t) (hz : (P.info? t).map (·.zero) = some (some z))
    (h : ∀ b W, w.heap.size = b → Below w.heap.size w W → W.heap[b]? = some (.cells z.cells t (0, 0)) → K (a.put o.dst (.pointer (some ⟨b, 0, none⟩))) W) : o.wp P a w K Q := by
  simp only [Option.map_eq_some_iff] at hz
  obtain ⟨inf, hi, he⟩ := hz
  have hzv : (zeroValue t).run P w = .ok z w := by
    unfold zeroValue typeInfo
    simp [go_sem, hi, he]
  unfold Oper.wp
  have hr : (execOp a.eval o).run P w = .ok (.value (.pointer (some ⟨w.heap.size, 0, none⟩))) (w.alloc (.cells z.cells t)) := by
    simp [execOp, ho, Instr.alloc, newVar, newRow, go_sem, hzv]
  rw [hr, Oper.upon_value]
  exact h _ _ rfl ((Below.refl w.heap.size w).alloc (Nat.le_refl _) _) (by show (w.heap.push _)[w.heap.size]? = _; rw [Array.getElem?_push, if_pos rfl])
theorem g_store {t tt : TypeId} {x y : Operand} {b off n : Nat} {v : Value} {cs : List Value} (f : Fr a N L) (hd : o.dst = none) (ho : o.op = .store t x y) (hx : ev L x = some (.pointer (some ⟨b, off, none⟩))) (hy : ev L y = some v)
    (hrow : w.heap[b]? = some (.cells cs.toArray tt (0, 0))) (hs : szB P t = some n) (hn : v.cells.size = n) (hf : off + n ≤ cs.length) (h1 : (v.cells.toList.all (·.oneCell')) = true)
    (h : ∀ W, But b w W → W.heap[b]? = some (.cells (setL cs off v.cells.toList).toArray tt (0, 0)) → K a W) : o.wp P a w K Q := by
  obtain ⟨W, hr, hb, hw'⟩ := store_run (P := P) f ho hx hy hrow hs hn hf h1
  unfold Oper.wp
  rw [hr, Oper.upon_skip, hd]
  exact h W hb hw'
theorem rs_all {Rs : List VW} (h : ∀ r ∈ Rs, ∀ v vs w w', r v vs w → Below w.heap.size w w' → r v vs w') : ∀ j v vs w w', rOf Rs j v vs w → Below w.heap.size w w' → rOf Rs j v vs w' := by
  intro j v vs w w' hr hb
  unfold rOf at hr ⊢
  cases hj : Rs[j]? with
  | none => trivial
  | some r =>
    rw [hj] at hr
    exact h r (List.mem_of_getElem? hj) v vs w w' hr hb
end
end Go.Proofs.Ytnijjpakpphhhaa.Kit

/-
  OWN TEXT. A region that draws and makes memory in any order, its last operation waits for all others: what an operation makes lies in a stretch of blocks of its own.
-/
namespace Go.Proofs.Ytnijjpakpphhhaa.Kit
open Go Go.RowKit

abbrev VJ := Value → List Value → Nat → Nat → World → Prop
def rJ (Rs : List VJ) (j : Nat) (v : Value) (vs : List Value) (lo hi : Nat) (w : World) : Prop :=
  match Rs[j]? with
  | some r => r v vs lo hi w
  | none => True
section
variable {P : Program} {l : List Oper} {Q : Exit → Act → World → Prop} {S : World → Prop} {N : Nat} {L0 : List (Nat × Value)} {Rs : List VJ}
/-- What one operation must do. -/
def stepJ (P : Program) (l : List Oper) (Q : Exit → Act → World → Prop) (S : World → Prop) (N : Nat) (L0 : List (Nat × Value)) (Rs : List VJ) (i : Nat) (o : Oper) : Prop :=
  ∀ a w, S w → Fr a N L0 → allP (fun j => ∃ lo hi, rJ Rs j (slotV l a j) ((depsAt l j).map (slotV l a)) lo hi w) (depsOf o) →
    ∀ K : Act → World → Prop, (∀ v w', Below w.heap.size w w' → rJ Rs i v ((depsOf o).map (slotV l a)) w.heap.size w'.heap.size w' → K (a.put o.dst v) w') → o.wp P a w K Q
structure GJ (S : World → Prop) (N : Nat) (L0 : List (Nat × Value)) (l : List Oper) (Rs : List VJ) (listed : Array Bool) (a : Act) (w : World) : Prop where
  s : S w
  f : Fr a N L0
  c : ∀ j, listed.getD j false = true → ∀ k ∈ depsAt l j, listed.getD k false = true
  r : ∃ I : Nat → Nat × Nat, (∀ j, listed.getD j false = true → rJ Rs j (slotV l a j) ((depsAt l j).map (slotV l a)) (I j).1 (I j).2 w ∧ (I j).2 ≤ w.heap.size) ∧
    ∀ j k, listed.getD j false = true → listed.getD k false = true → j ≠ k → (I j).2 ≤ (I k).1 ∨ (I k).2 ≤ (I j).1

theorem wpAny_growJ (hB : growB l L0 N = true) (hS : ∀ w w', S w → Below w.heap.size w w' → S w') (hR : ∀ j v vs lo hi w w', rJ Rs j v vs lo hi w → Below w.heap.size w w' → rJ Rs j v vs lo hi w')
    (hop : ∀ i o, l[i]? = some o → stepJ P l Q S N L0 Rs i o)
    (hend : ∀ a w, GJ S N L0 l Rs (Array.replicate l.length true) a w → Q .normal a w) :
    ∀ (fuel : Nat) (listed : Array Bool) (a : Act) (w : World), listed.size = l.length → leftN listed ≤ fuel → GJ S N L0 l Rs listed a w → wpAny P .any l.toArray Q fuel listed a w := by
  have hfin : ∀ (listed : Array Bool) (a : Act) (w : World), listed.size = l.length → GJ S N L0 l Rs listed a w → Region.ready .any l.toArray listed = [] → Q .normal a w := by
    intro listed a w hl hI hr
    have hall := all_of_empty' hB hl hr
    have : listed = Array.replicate l.length true := by
      apply Array.ext_getElem?
      intro i
      by_cases hi : i < l.length
      · have := hall i hi
        simp only [Array.getD_eq_getD_getElem?, Array.getElem?_eq_getElem (show i < listed.size by omega), Option.getD_some] at this
        rw [Array.getElem?_eq_getElem (by omega), this]
        simp [hi]
      · rw [Array.getElem?_eq_none (by omega), Array.getElem?_eq_none (by simp; omega)]
    subst this
    exact hend a w hI
  have hstep : ∀ (listed : Array Bool) (a : Act) (w : World) (i : Nat), listed.size = l.length → GJ S N L0 l Rs listed a w → i ∈ Region.ready .any l.toArray listed →
      listed[i]? = some false ∧ ∀ K : Act → World → Prop, (∀ a' w', GJ S N L0 l Rs (listed.setIfInBounds i true) a' w' → K a' w') → wpOp P l.toArray Q i K a w := by
    intro listed a w i hl hI hi
    obtain ⟨o, ho, hun, hdep⟩ := mem_ready.1 hi
    have ho' : l[i]? = some o := by simpa using ho
    have hil : i < l.length := (List.getElem?_eq_some_iff.1 ho').1
    obtain ⟨o2, d, ho2, hd, hg, hN, hlk, _, _⟩ := ok_spec hB hil
    rw [ho'] at ho2
    cases ho2
    have hfal : listed[i]? = some false := by
      simp only [Array.getD_eq_getD_getElem?, Array.getElem?_eq_getElem (show i < listed.size by omega), Option.getD_some] at hun ⊢
      rw [hun]
    refine ⟨hfal, fun K hK => ?_⟩
    unfold wpOp
    rw [ho]
    simp only
    rw [if_pos (by simp [Region.wanted, hg])]
    left
    obtain ⟨I, hI1, hI2⟩ := hI.r
    refine hop i o ho' a w hI.s hI.f (allP_of _ fun j hj => ?_) K ?_
    · unfold depsOf at hj
      simp only [List.mem_map, List.mem_filter, Array.mem_toList_iff] at hj
      obtain ⟨e, ⟨he, hb⟩, rfl⟩ := hj
      exact ⟨_, _, (hI1 _ (hdep e he hb)).1⟩
    · intro v w' hbw hrv
      refine hK _ _ ?_
      rw [hd]
      have hun' : listed.getD i false = false := by simp [Array.getD_eq_getD_getElem?, hfal]
      have hlt : ∀ k, listed.getD k false = true → k < l.length := by
        intro k hk
        by_cases h : k < l.length
        · exact h
        · rw [Array.getD_eq_getD_getElem?, Array.getElem?_eq_none (by omega)] at hk
          cases hk
      have hne : ∀ j, (listed.setIfInBounds i true).getD j false = true → j ≠ i → listed.getD j false = true ∧ j < l.length := by
        intro j hj hji
        rw [getD_set_other (Ne.symm hji)] at hj
        exact ⟨hj, hlt j hj⟩
      have hsv := slot_eq (l := l) hI.f ho' hd hN v
      have hso : ∀ j, j < l.length → j ≠ i → slotV l (a.put (some d) v) j = slotV l a j := fun j h1 h2 => slot_ne hB ho' hd h1 h2 a v
      have hdl : ∀ k ∈ depsAt l i, listed.getD k false = true := by
        intro k hk
        unfold depsAt at hk
        rw [ho'] at hk
        simp only [depsOf, List.mem_map, List.mem_filter, Array.mem_toList_iff] at hk
        obtain ⟨e, ⟨he, hb⟩, rfl⟩ := hk
        exact hdep e he hb
      have hmap : ∀ j, (∀ k ∈ depsAt l j, listed.getD k false = true) → (depsAt l j).map (slotV l (a.put (some d) v)) = (depsAt l j).map (slotV l a) := by
        intro j hj
        refine List.map_congr_left fun k hk => ?_
        have hkl := hj k hk
        refine hso k (hlt k hkl) ?_
        intro e
        rw [e, hun'] at hkl
        cases hkl
      refine ⟨hS _ _ hI.s hbw, hI.f.off v hN hlk, fun j hj k hk => ?_, fun j => if j = i then (w.heap.size, w'.heap.size) else I j, fun j hj => ?_, fun j k hj hk hjk => ?_⟩
      all_goals try dsimp only
      · by_cases e : k = i
        · rw [e]; exact getD_set_eq (by omega) false
        · rw [getD_set_other (Ne.symm e)]
          by_cases e' : j = i
          · rw [e'] at hk; exact hdl k hk
          · exact hI.c j (hne j hj e').1 k hk
      · by_cases e : j = i
        · subst e
          rw [hsv, hmap _ hdl, if_pos rfl]
          unfold depsAt
          rw [ho']
          exact ⟨hrv, Nat.le_refl _⟩
        · obtain ⟨h1, h2⟩ := hne j hj e
          rw [hso j h2 e, hmap j (hI.c j h1), if_neg e]
          have := (hI1 j h1).2
          have := hbw.size
          exact ⟨hR _ _ _ _ _ _ _ (hI1 j h1).1 hbw, by omega⟩
      · by_cases e : j = i
        · rw [if_pos e, if_neg (fun h => hjk (e.trans h.symm))]
          exact .inr ((hI1 k (hne k hk (fun h => hjk (e.trans h.symm))).1).2)
        · rw [if_neg e]
          by_cases e' : k = i
          · rw [if_pos e']; exact .inl ((hI1 j (hne j hj e).1).2)
          · rw [if_neg e']
            exact hI2 j k (hne j hj e).1 (hne k hk e').1 hjk
  intro fuel
  induction fuel with
  | zero =>
    intro listed a w hl hc hI
    have hr : Region.ready .any l.toArray listed = [] := by
      rw [List.eq_nil_iff_forall_not_mem]
      intro i hi
      have := leftN_set (hstep listed a w i hl hI hi).1
      omega
    exact ⟨hr, hfin listed a w hl hI hr⟩
  | succ n ih =>
    intro listed a w hl hc hI
    refine ⟨fun hr => hfin listed a w hl hI hr, fun i hi => ?_⟩
    obtain ⟨h1, h2⟩ := hstep listed a w i hl hI hi
    refine h2 _ fun a' w' hI' => ih _ a' w' (by simpa using hl) ?_ hI'
    have := leftN_set h1
    omega
theorem gj_start {A : Act} {w : World} (f : Fr A N L0) (hs : S w) : GJ S N L0 l Rs (Array.replicate l.length false) A w := by
  have hno : ∀ j, (Array.replicate l.length false).getD j false = false := by
    intro j
    by_cases h : j < l.length <;> simp [Array.getD_eq_getD_getElem?, h]
  exact ⟨hs, f, fun j hj => False.elim (by rw [hno] at hj; cases hj), fun _ => (0, 0), fun j hj => False.elim (by rw [hno] at hj; cases hj), fun j k hj => False.elim (by rw [hno] at hj; cases hj)⟩
/-- The region, its last operation waits for all others. -/
theorem sx_growj {id n : Nat} {o : Oper} {A : Act} {w : World} (Rs : List VJ) (S : World → Prop) (f : Fr A N L0) (hm : P.follows .mixedOrders = true) (hp : peelB .any l n = true) (ho : l[n]? = some o) (hB : growB (l.take n) L0 N = true) (hS : ∀ w w', S w → Below w.heap.size w w' → S w') (hR : ∀ j v vs lo hi w w', rJ Rs j v vs lo hi w → Below w.heap.size w w' → rJ Rs j v vs lo hi w')
    (h0 : S { w with drawn := w.drawn + 1 }) (hop : allO (stepJ P (l.take n) (lastQ P o Q) S N L0 Rs) 0 (l.take n))
    (hend : ∀ a w, GJ S N L0 (l.take n) Rs (Array.replicate (l.take n).length true) a w → lastQ P o Q .normal a w) : (Code.region id l.toArray true).wp P Q A w := by
  refine wp_region_any hm ?_
  have h1 := (peel_spec hp).1
  have hn : (l.take n).length = n := by simp; omega
  have hg := wpAny_growJ (P := P) (Q := lastQ P o Q) hB hS hR (fun i o hi => by have := allO_at (l.take n) 0 hop i o hi; rwa [Nat.zero_add] at this) hend n (Array.replicate n false) A { w with drawn := w.drawn + 1 } (by simp [hn]) (left_start n) (by have := gj_start (l := l.take n) (Rs := Rs) f h0; rwa [hn] at this)
  have := wpAny_peel hp ho n (Array.replicate n false) A { w with drawn := w.drawn + 1 } (by simp) (fun j oj hj _ hg => by simp [Array.getD_eq_getD_getElem?, hj] at hg) hg
  have e : (Array.replicate n false).push false = Array.replicate l.toArray.size false := by
    rw [List.size_toArray, h1, Array.replicate_succ]
  rw [e] at this
  rw [List.size_toArray, h1]
  rw [List.size_toArray, h1] at this
  exact this
theorem rj_all {Rs : List VJ} (h : ∀ r ∈ Rs, ∀ v vs lo hi w w', r v vs lo hi w → Below w.heap.size w w' → r v vs lo hi w') : ∀ j v vs lo hi w w', rJ Rs j v vs lo hi w → Below w.heap.size w w' → rJ Rs j v vs lo hi w' := by
  intro j v vs lo hi w w' h1 hb
  unfold rJ at h1 ⊢
  cases e : Rs[j]? with
  | none => trivial
  | some r =>
    rw [e] at h1
    exact h r (List.mem_of_getElem? e) v vs lo hi w w' h1 hb
end

end Go.Proofs.Ytnijjpakpphhhaa.Kit

/-
  OWN TEXT. A region that draws its order, order by order: what reads comes first, of the others each that is ready; over whatever program.
-/
namespace Go.Proofs.Ytnijjpakpphhhaa.Kit
open Go Go.RowKit

section
variable {P : Program} {l : List Oper} {Q : Exit → Act → World → Prop} {S : World → Prop} {n N : Nat} {listed : Array Bool} {A : Act} {L : List (Nat × Value)} {o o' : Oper} {w : World}
theorem a_start {id : Nat} (S : World → Prop) (hm : P.follows .mixedOrders = true) (hn : l.length = n) (h : wpAnyH P .any l.toArray Q S n (Array.replicate n false) A { w with drawn := w.drawn + 1 }) : (Code.region id l.toArray true).wp P Q A w := by
  refine wp_region_held (S := S) hm ?_
  subst hn
  simpa using h
theorem a_do (k : Nat) {d : Nat} {v : Value} (f : Fr A N L) (hk : l[k]? = some o) (hc : (Region.noSelect l.toArray && Region.free .any l.toArray listed k && (Region.ready .any l.toArray listed).contains k) = true) (hQ : Blind Q) (hS : S w) (hd : o.dst = some d) (hN : Nat.blt d N = true) (hg : o.guard = none) (hy : YC P S L o v)
    (h : ∀ A', Fr A' N ((d, v) :: L) → wpAnyH P .any l.toArray Q S n (listed.setIfInBounds k true) A' w) : wpAnyH P .any l.toArray Q S (n + 1) listed A w := by
  simp only [Bool.and_eq_true] at hc
  refine wpAnyH_take (by simpa using hk) hc.1.1 hc.1.2 hc.2 (fun c a w => hQ c a w _ _) (.inl ⟨by simp [Region.wanted, hg], hy A.eval (fun x u hu => f.ev hu)⟩) hS ?_
  rw [hd]
  exact h _ (f.put d v (by simpa [Nat.blt_eq] using hN))
theorem a_one (k : Nat) (hk : l[k]? = some o) (hr : Region.ready .any l.toArray listed = [k]) (hg : o.guard = none)
    (h : o.wp P A w (fun a' w' => S w' ∧ wpAnyH P .any l.toArray Q S n (listed.setIfInBounds k true) a' w') Q) : wpAnyH P .any l.toArray Q S (n + 1) listed A w := by
  refine wpAnyH_all hr (by simp) ?_
  intro i hi
  obtain rfl : i = k := by simpa using hi
  unfold wpOp
  rw [show l.toArray[i]? = some o by simpa using hk]
  simp only [Region.wanted, hg, if_true]
  exact .inl h
theorem a_two (k j : Nat) (hk : l[k]? = some o) (hj : l[j]? = some o') (hr : Region.ready .any l.toArray listed = [k, j]) (hg : o.guard = none) (hg' : o'.guard = none)
    (h : o.wp P A w (fun a' w' => S w' ∧ wpAnyH P .any l.toArray Q S n (listed.setIfInBounds k true) a' w') Q)
    (h' : o'.wp P A w (fun a' w' => S w' ∧ wpAnyH P .any l.toArray Q S n (listed.setIfInBounds j true) a' w') Q) : wpAnyH P .any l.toArray Q S (n + 1) listed A w := by
  refine wpAnyH_all hr (by simp) ?_
  intro i hi
  unfold wpOp
  rcases (show i = k ∨ i = j by simpa using hi) with rfl | rfl
  · rw [show l.toArray[i]? = some o by simpa using hk]
    simp only [Region.wanted, hg, if_true]
    exact .inl h
  · rw [show l.toArray[i]? = some o' by simpa using hj]
    simp only [Region.wanted, hg', if_true]
    exact .inl h'
theorem a_put {d : Nat} {v : Value} (f : Fr A N L) (hd : o.dst = some d) (hN : Nat.blt d N = true) (h : ∀ A', Fr A' N ((d, v) :: L) → wpAnyH P .any l.toArray Q S n listed A' w) : wpAnyH P .any l.toArray Q S n listed (A.put o.dst v) w := by
  rw [hd]
  exact h _ (f.put d v (by simpa [Nat.blt_eq] using hN))
theorem x_put {d : Nat} {v : Value} (f : Fr A N L) (hd : o.dst = some d) (hN : Nat.blt d N = true) (h : ∀ A', Fr A' N ((d, v) :: L) → Q .normal A' w) : Q .normal (A.put o.dst v) w := by
  rw [hd]
  exact h _ (f.put d v (by simpa [Nat.blt_eq] using hN))
theorem a_end (hr : Region.ready .any l.toArray listed = []) (h : Q .normal A w) : wpAnyH P .any l.toArray Q S 0 listed A w := ⟨hr, h⟩
/-- What stands behind a region needs no more than this. -/
theorem x_cut {id : Nat} {ops : Array Oper} {d : Bool} (I : Act → World → Prop) (h : (Code.region id ops d).wp P (fun e A W => e = .normal ∧ I A W) A w) (k : ∀ A W, I A W → Q .normal A W) : (Code.region id ops d).wp P Q A w :=
  Code.wp_mono (fun _ a w ⟨he, hI⟩ => he ▸ k a w hI) h
theorem blind_cut {I : Act → World → Prop} : Blind (fun e A W => e = Exit.normal ∧ I A W) := fun _ _ _ _ _ h => nomatch h.1
theorem x_retc2 {fn : Func} {R : Ending → World → Prop} {t u s : Tmp} {ty tt : TypeId} {b n : Nat} {cs : List Value} {v v' : Value} (f : Fr A N L) (hr : fn.results = #[.cell t ty, .tmp u, .tmp s]) (hv : look L t = some (.pointer (some ⟨b, 0, none⟩))) (hu : look L u = some v) (hs' : look L s = some v') (ht : isAggB P ty = some (some n)) (hrow : w.heap[b]? = some (.cells cs.toArray tt (0, 0))) (hn : cs.length = n)
    (h : R (.returned (.tuple #[.agg cs.toArray, v, v'])) w) : bodyPost P fn R .ret A w := by
  refine ⟨f.defs, _, ?_, h⟩
  have e := f.at_ t _ hv
  rw [Array.getD_eq_getD_getElem?] at e
  have e' := f.at_ u _ hu
  rw [Array.getD_eq_getD_getElem?] at e'
  have e'' := f.at_ s _ hs'
  rw [Array.getD_eq_getD_getElem?] at e''
  have hl := cell_run ht hrow hn
  obtain ⟨q, hs⟩ : ∃ q, loadVar ty ⟨b, 0, none⟩ = q := ⟨_, rfl⟩
  rw [hs] at hl
  simp [results, hr, e, e', e'', asAddr, hs, hl]
end

end Go.Proofs.Ytnijjpakpphhhaa.Kit

/-
  OWN TEXT. As Sxa: three that are ready; an operation that makes a value and changes the world.
-/
namespace Go.Proofs.Ytnijjpakpphhhaa.Kit
open Go Go.RowKit

section
variable {P : Program} {l : List Oper} {Q : Exit → Act → World → Prop} {S : World → Prop} {n N : Nat} {listed : Array Bool} {A : Act} {L : List (Nat × Value)} {o o' o'' : Oper} {w : World}
theorem a_three (k j i3 : Nat) (hk : l[k]? = some o) (hj : l[j]? = some o') (hi3 : l[i3]? = some o'') (hr : Region.ready .any l.toArray listed = [k, j, i3]) (hg : o.guard = none) (hg' : o'.guard = none) (hg'' : o''.guard = none)
    (h : o.wp P A w (fun a' w' => S w' ∧ wpAnyH P .any l.toArray Q S n (listed.setIfInBounds k true) a' w') Q)
    (h' : o'.wp P A w (fun a' w' => S w' ∧ wpAnyH P .any l.toArray Q S n (listed.setIfInBounds j true) a' w') Q)
    (h'' : o''.wp P A w (fun a' w' => S w' ∧ wpAnyH P .any l.toArray Q S n (listed.setIfInBounds i3 true) a' w') Q) : wpAnyH P .any l.toArray Q S (n + 1) listed A w := by
  refine wpAnyH_all hr (by simp) ?_
  intro i hi
  unfold wpOp
  rcases (show i = k ∨ i = j ∨ i = i3 by simpa using hi) with rfl | rfl | rfl
  · rw [show l.toArray[i]? = some o by simpa using hk]
    simp only [Region.wanted, hg, if_true]
    exact .inl h
  · rw [show l.toArray[i]? = some o' by simpa using hj]
    simp only [Region.wanted, hg', if_true]
    exact .inl h'
  · rw [show l.toArray[i]? = some o'' by simpa using hi3]
    simp only [Region.wanted, hg'', if_true]
    exact .inl h''
/-- An operation that makes a value, and says what it made. -/
theorem g_opR {K : Act → World → Prop} {R : Value → World → Prop} (hr : ∃ v W, (execOp A.eval o).run P w = .ok (.value v) W ∧ R v W) (h : ∀ v W, R v W → K (A.put o.dst v) W) : o.wp P A w K Q := by
  obtain ⟨v, W, hrun, hR⟩ := hr
  unfold Oper.wp
  rw [hrun, Oper.upon_value]
  exact h v W hR
end

end Go.Proofs.Ytnijjpakpphhhaa.Kit

/-
  OWN TEXT. Several operations of a region that draws its order each make one block, in whatever order; over whatever program.
-/
namespace Go.Proofs.Ytnijjpakpphhhaa.Kit
open Go Go.RowKit

/-- The values, one of them changed. -/
def updF (f : Nat → Value) (j : Nat) (u : Value) : Nat → Value := fun k => if k = j then u else f k
theorem updF_same (f : Nat → Value) (j : Nat) (u : Value) : updF f j u j = u := by simp [updF]
theorem updF_other (f : Nat → Value) {j k : Nat} (u : Value) (h : k ≠ j) : updF f j u k = f k := by simp [updF, h]

theorem countP_upd {m j : Nat} {p q : Nat → Bool} (hj : j < m) (hp : p j = true) (hq : q j = false) (h : ∀ k, k ≠ j → q k = p k) : (List.range m).countP q + 1 = (List.range m).countP p := by
  induction m with
  | zero => omega
  | succ m ih =>
    rw [List.range_succ, List.countP_append, List.countP_append]
    by_cases e : j = m
    · subst e
      have : (List.range j).countP q = (List.range j).countP p := List.countP_congr fun k hk => by rw [h k (by have := List.mem_range.1 hk; omega)]
      simp [this, hp, hq]
    · have := ih (by omega)
      rw [show (List.countP q [m]) = List.countP p [m] by simp [List.countP_cons, h m (fun g => e g.symm)]]
      omega

/-- What is ready is one of the operations that have not come up; and there is one. -/
def rdyOk (md : Region.Mode) (l : List Oper) (listed : Array Bool) (ps : List (Nat × Bool)) : Bool :=
  ps.all (·.2) || (!(Region.ready md l.toArray listed).isEmpty && (Region.ready md l.toArray listed).all fun i => ps.any fun p => p.1 == i && !p.2)

theorem manyB {P : Program} {md : Region.Mode} {Q : Exit → Act → World → Prop} {S : World → Prop} {l : List Oper} (m mb : Nat) (hmb : mb ≤ m) (F : (Nat → Value) → Value → Act) (idx : Nat → Nat) (obj : Nat → Obj) (val : Nat → Nat → Value) (vb : (Nat → Nat) → Value) (L : (Nat → Bool) → Bool → Array Bool) {W0 : World} {fuel : Nat} {u0 : Value}
    (hop : ∀ j, j < m → ∃ o, l[idx j]? = some o ∧ o.guard = none ∧ ∀ (f : Nat → Value) (u : Value) (W : World) (K : Act → World → Prop), Below W0.heap.size W0 W → K (F (updF f j (val j W.heap.size)) u) (W.alloc (obj j)) → o.wp P (F f u) W K Q)
    (hset : ∀ j, j < m → ∀ b c, (L b c).setIfInBounds (idx j) true = L (fun k => if k = j then true else b k) c)
    (hL : ∀ b b' c, (∀ j, j < m → b j = b' j) → L b c = L b' c)
    (hF : ∀ f f' u, (∀ j, j < m → f j = f' j) → F f u = F f' u)
    (hvb : ∀ n n', (∀ j, j < mb → n j = n' j) → vb n = vb n')
    (hrdy' : ∀ b c, ((!c && (List.range mb).all b) || rdyOk md l (L b c) ((List.range m).map fun j => (idx j, b j))) = true)
    (hbuild : ∀ (b : Nat → Bool), (∀ j, j < mb → b j = true) → ∀ (f : Nat → Value) (n : Nat → Nat) (W : World) (fuel' : Nat), (∀ j, j < mb → f j = val j (n j)) → Below W0.heap.size W0 W → wpAnyH P md l.toArray Q S fuel' (L b true) (F f (vb n)) W → wpAnyH P md l.toArray Q S (fuel' + 1) (L b false) (F f u0) W)
    (hS : ∀ W, Below W0.heap.size W0 W → S W)
    (hend : ∀ (n : Nat → Nat) (W : World), Below W0.heap.size W0 W → (∀ j, j < m → W0.heap.size ≤ n j ∧ W.heap[n j]? = some (obj j)) → (∀ j k, j < m → k < m → j ≠ k → n j ≠ n k) → wpAnyH P md l.toArray Q S fuel (L (fun _ => true) true) (F (fun j => val j (n j)) (vb n)) W)
    (f0 : Nat → Value) : wpAnyH P md l.toArray Q S (fuel + m + 1) (L (fun _ => false) false) (F f0 u0) W0 := by
  have hrdy : ∀ (b : Nat → Bool) c, (c = true ∨ ∃ j, j < mb ∧ b j = false) → (∃ j, j < m ∧ b j = false) → Region.ready md l.toArray (L b c) ≠ [] ∧ ∀ i ∈ Region.ready md l.toArray (L b c), ∃ j, j < m ∧ i = idx j ∧ b j = false := by
    rintro b c hc ⟨j, hj, hjf⟩
    have h0 := hrdy' b c
    have h : rdyOk md l (L b c) ((List.range m).map fun j => (idx j, b j)) = true := by
      rcases Bool.or_eq_true _ _ ▸ h0 with h | h
      · exfalso
        rw [Bool.and_eq_true] at h
        rcases hc with rfl | ⟨k, hk, hkf⟩
        · simp at h
        · have := List.all_eq_true.1 h.2 k (List.mem_range.2 hk)
          rw [hkf] at this
          cases this
      · exact h
    unfold rdyOk at h
    rw [Bool.or_eq_true] at h
    rcases h with h | h
    · have := List.all_eq_true.1 h (idx j, b j) (List.mem_map.2 ⟨j, List.mem_range.2 hj, rfl⟩)
      rw [hjf] at this
      cases this
    · rw [Bool.and_eq_true] at h
      refine ⟨fun e => (by rw [e] at h; exact absurd h.1 (by simp)), fun i hi => ?_⟩
      have := List.all_eq_true.1 h.2 i hi
      obtain ⟨p, hp, hq⟩ := List.any_eq_true.1 this
      obtain ⟨k, hk, rfl⟩ := List.mem_map.1 hp
      simp only [Bool.and_eq_true, beq_iff_eq, Bool.not_eq_true'] at hq
      exact ⟨k, List.mem_range.1 hk, hq.1.symm, hq.2⟩
  suffices H : ∀ (c : Nat) (x : Nat → Option Nat) (bt : Bool) (u : Value) (f : Nat → Value) (W : World), (List.range m).countP (fun j => (x j).isNone) = c →
      (∀ j n, j < m → x j = some n → f j = val j n ∧ W0.heap.size ≤ n ∧ W.heap[n]? = some (obj j)) → (∀ j k n, j < m → k < m → j ≠ k → x j = some n → x k ≠ some n) → Below W0.heap.size W0 W →
      (bt = false → u = u0) → (bt = true → (∀ j, j < mb → (x j).isSome = true) ∧ u = vb fun j => (x j).getD 0) →
      wpAnyH P md l.toArray Q S (fuel + c + (if bt = true then 0 else 1)) (L (fun j => (x j).isSome) bt) (F f u) W by
    have h := H m (fun _ => none) false u0 f0 W0 (by simp) (fun j n _ h => by cases h) (fun j k n _ _ _ h => by cases h) (Below.refl _ _) (fun _ => rfl) (fun h => by cases h)
    simpa using h
  -- behind the build
  have done : ∀ (c : Nat) (x : Nat → Option Nat) (f : Nat → Value) (W : World), (List.range m).countP (fun j => (x j).isNone) = c →
      (∀ j n, j < m → x j = some n → f j = val j n ∧ W0.heap.size ≤ n ∧ W.heap[n]? = some (obj j)) → (∀ j k n, j < m → k < m → j ≠ k → x j = some n → x k ≠ some n) → Below W0.heap.size W0 W → c = 0 →
      wpAnyH P md l.toArray Q S fuel (L (fun j => (x j).isSome) true) (F f (vb fun j => (x j).getD 0)) W := by
    intro c x f W hc hx hd hb h0
    subst h0
    have hall : ∀ j, j < m → ∃ n, x j = some n := by
      intro j hj
      cases h : x j with
      | some n => exact ⟨n, rfl⟩
      | none =>
        have := (List.countP_eq_zero.1 hc) j (List.mem_range.2 hj)
        simp [h] at this
    have e1 : L (fun j => (x j).isSome) true = L (fun _ => true) true := hL _ _ _ fun j hj => by obtain ⟨n, hn⟩ := hall j hj; simp [hn]
    have e2 : F f (vb fun j => (x j).getD 0) = F (fun j => val j ((x j).getD 0)) (vb fun j => (x j).getD 0) := hF _ _ _ fun j hj => by obtain ⟨n, hn⟩ := hall j hj; rw [(hx j n hj hn).1, hn]; rfl
    rw [e1, e2]
    refine hend (fun j => (x j).getD 0) W hb (fun j hj => ?_) (fun j k hj hk hne => ?_)
    · obtain ⟨n, hn⟩ := hall j hj
      simp only [hn, Option.getD_some]
      exact (hx j n hj hn).2
    · obtain ⟨n, hn⟩ := hall j hj
      obtain ⟨n', hn'⟩ := hall k hk
      simp only [hn, hn', Option.getD_some]
      intro e
      exact hd j k n hj hk hne hn (by rw [hn', e])
  intro c
  induction c with
  | zero =>
    intro x bt u f W hc hx hd hb hu hu'
    have hall : ∀ j, j < m → ∃ n, x j = some n := by
      intro j hj
      cases h : x j with
      | some n => exact ⟨n, rfl⟩
      | none =>
        have := (List.countP_eq_zero.1 hc) j (List.mem_range.2 hj)
        simp [h] at this
    have hd0 := done 0 x f W hc hx hd hb rfl
    cases bt with
    | true =>
      rw [(hu' rfl).2]
      simpa using hd0
    | false =>
      rw [hu rfl]
      have := hbuild (fun j => (x j).isSome) (fun j hj => by obtain ⟨n, hn⟩ := hall j (by omega); simp [hn]) f (fun j => (x j).getD 0) W fuel (fun j hj => by obtain ⟨n, hn⟩ := hall j (by omega); rw [(hx j n (by omega) hn).1, hn]; rfl) hb hd0
      simpa using this
  | succ c ih =>
    have step : ∀ (x : Nat → Option Nat) (bt : Bool) (u : Value) (f : Nat → Value) (W : World), (List.range m).countP (fun j => (x j).isNone) = c + 1 →
      (∀ j n, j < m → x j = some n → f j = val j n ∧ W0.heap.size ≤ n ∧ W.heap[n]? = some (obj j)) → (∀ j k n, j < m → k < m → j ≠ k → x j = some n → x k ≠ some n) → Below W0.heap.size W0 W →
      (bt = false → u = u0) → (bt = true → (∀ j, j < mb → (x j).isSome = true) ∧ u = vb fun j => (x j).getD 0) → (bt = true ∨ ∃ j, j < mb ∧ (x j).isSome = false) →
      wpAnyH P md l.toArray Q S (fuel + (c + 1) + (if bt = true then 0 else 1)) (L (fun j => (x j).isSome) bt) (F f u) W := by
      intro x bt u f W hc hx hd hb hu hu' hbt
      have hex : ∃ j, j < m ∧ (x j).isSome = false := by
        apply Classical.byContradiction
        intro hno
        have : (List.range m).countP (fun j => (x j).isNone) = 0 := List.countP_eq_zero.2 fun j hj => by
          intro h
          exact hno ⟨j, List.mem_range.1 hj, by simpa using h⟩
        omega
      obtain ⟨r1, r2⟩ := hrdy (fun j => (x j).isSome) bt hbt hex
      have ef : fuel + (c + 1) + (if bt = true then 0 else 1) = (fuel + c + (if bt = true then 0 else 1)) + 1 := by omega
      rw [ef]
      refine ⟨fun h => absurd h r1, fun i hi => ?_⟩
      obtain ⟨j, hj, rfl, hn⟩ := r2 i hi
      obtain ⟨o, o1, o2, hwp⟩ := hop j hj
      have hnone : x j = none := by
        cases h : x j with
        | none => rfl
        | some n => rw [h] at hn; cases hn
      unfold wpOp
      have o1' : l.toArray[idx j]? = some o := by simpa using o1
      rw [o1']
      have hw : ∀ y, Region.wanted o y = true := fun y => by simp [Region.wanted, o2]
      simp only [hw, if_true]
      refine .inl (hwp f u W _ hb ?_)
      have hb' : Below W0.heap.size W0 (W.alloc (obj j)) := hb.alloc hb.size _
      have hg : ∀ n, n < W.heap.size → (W.alloc (obj j)).heap[n]? = W.heap[n]? := fun n hn => by
        show (W.heap.push (obj j))[n]? = _
        rw [Array.getElem?_push, if_neg (by omega)]
      have hself : (W.alloc (obj j)).heap[W.heap.size]? = some (obj j) := by
        show (W.heap.push (obj j))[W.heap.size]? = _
        rw [Array.getElem?_push, if_pos rfl]
      refine ⟨hS _ hb', ?_⟩
      rw [hset j hj]
      have key := ih (fun k => if k = j then some W.heap.size else x k) bt u (updF f j (val j W.heap.size)) (W.alloc (obj j)) (by
          have := countP_upd (m := m) (p := fun k => (x k).isNone) (q := fun k => (if k = j then some W.heap.size else x k).isNone) hj (by simp [hnone]) (by simp) (fun k hk => by simp [hk])
          omega) (fun k n hk h => by
          by_cases e : k = j
          · subst e
            simp only [if_true, Option.some.injEq] at h
            subst h
            exact ⟨updF_same _ _ _, hb.size, hself⟩
          · simp only [e, if_false] at h
            obtain ⟨h1, h2, h3⟩ := hx k n hk h
            have hlt := (Array.getElem?_eq_some_iff.1 h3).1
            exact ⟨by rw [updF_other _ _ e, h1], h2, (hg n hlt).trans h3⟩) (fun k k' n hk hk' hne h h' => by
          by_cases e : k = j
          · subst e
            have e' : ¬ k' = k := fun g => hne g.symm
            simp only [if_true, Option.some.injEq] at h
            simp only [e', if_false] at h'
            have := (Array.getElem?_eq_some_iff.1 (hx k' n hk' h').2.2).1
            omega
          · simp only [e, if_false] at h
            by_cases e' : k' = j
            · subst e'
              simp only [if_true, Option.some.injEq] at h'
              have := (Array.getElem?_eq_some_iff.1 (hx k n hk h).2.2).1
              omega
            · simp only [e', if_false] at h'
              exact hd k k' n hk hk' hne h h') hb' hu (fun h => by
          obtain ⟨a1, a2⟩ := hu' h
          have hjb : ¬ j < mb := fun hjb => by have := a1 j hjb; rw [hnone] at this; cases this
          refine ⟨fun k hk => ?_, ?_⟩
          · simp only [show ¬ k = j by omega, if_false]
            exact a1 k hk
          · rw [a2]
            exact hvb _ _ fun k hk => by simp only [show ¬ k = j by omega, if_false])
      have e1 : L (fun k => if k = j then true else (x k).isSome) bt = L (fun k => (if k = j then some W.heap.size else x k).isSome) bt := hL _ _ _ fun k _ => by
        by_cases e : k = j <;> simp [e]
      rw [e1]
      exact key
    intro x bt u f W hc hx hd hb hu hu'
    by_cases hq : bt = true ∨ ∃ j, j < mb ∧ (x j).isSome = false
    · exact step x bt u f W hc hx hd hb hu hu' hq
    · have hbt : bt = false := by cases bt with
        | false => rfl
        | true => exact absurd (.inl rfl) hq
      have hallb : ∀ j, j < mb → (x j).isSome = true := fun j hj => by
        cases h : (x j).isSome with
        | true => rfl
        | false => exact absurd (.inr ⟨j, hj, h⟩) hq
      subst hbt
      rw [hu rfl]
      have := step x true (vb fun j => (x j).getD 0) f W hc hx hd hb (fun h => by cases h) (fun _ => ⟨hallb, rfl⟩) (.inl rfl)
      have h2 := hbuild (fun j => (x j).isSome) hallb f (fun j => (x j).getD 0) W _ (fun j hj => by
        have := hallb j hj
        cases h : x j with
        | none => rw [h] at this; cases this
        | some n => rw [(hx j n (by omega) h).1]; rfl) hb this
      simpa using h2

end Go.Proofs.Ytnijjpakpphhhaa.Kit
