/-
  OWN TEXTS, bundled: Sxg, RefHc.
-/
import Derived.Test.YtbjlbmofdnkmiaaPagesDrainsPart3
import Derived.Test.YtbjlbmofdnkmiaaPagesDrainsPart14

/-
  OWN TEXT. A region that draws its order and whose operations make memory: each keeps what the others made; over whatever program.
-/
namespace Go.Proofs.Ytbjlbmofdnkmiaa.Kit
open Go Go.RowKit

theorem Fr.more {A : Act} {N d : Nat} {L : List (Nat × Value)} {v : Value} (f : Fr A N L) (h : A.tmps.getD d undef = v) : Fr A N ((d, v) :: L) := by
  refine ⟨f.size, f.defs, fun i u g => ?_⟩
  unfold look at g
  cases hb : Nat.beq d i with
  | true =>
    simp only [hb, cond_true, Option.some.injEq] at g
    have e := Nat.eq_of_beq_eq_true hb
    subst e
    rw [h, g]
  | false =>
    simp only [hb, cond_false] at g
    exact f.at_ i u g
theorem Fr.off {A : Act} {N d : Nat} {L : List (Nat × Value)} (f : Fr A N L) (v : Value) (hd : d < N) (h : look L d = none) : Fr (A.put (some d) v) N L := by
  have g := f.put d v hd
  refine ⟨g.size, g.defs, fun i u hi => g.at_ i u ?_⟩
  unfold look
  cases hb : Nat.beq d i with
  | true =>
    have e := Nat.eq_of_beq_eq_true hb
    subst e
    rw [h] at hi
    cases hi
  | false => simpa [hb] using hi

abbrev VW := Value → List Value → World → Prop
def rOf (Rs : List VW) (j : Nat) (v : Value) (vs : List Value) (w : World) : Prop :=
  match Rs[j]? with
  | some r => r v vs w
  | none => True
def blkOf : Value → Option Nat
  | .slice (some a) _ _ => some a.block
  | .pointer (some a) => some a.block
  | _ => none
/-- The slot of operation j. -/
def slotV (l : List Oper) (a : Act) (j : Nat) : Value := a.tmps.getD (((l[j]?).bind (·.dst)).getD 0) undef
/-- In which block lies what the fresh operation j made. -/
def slotB (l : List Oper) (Fs : List Nat) (a : Act) (j : Nat) : Option Nat := bif memN Fs j then blkOf (slotV l a j) else none

/-- Operation i, whose slot is d. -/
def okB (l : List Oper) (L0 : List (Nat × Value)) (N i : Nat) : Bool :=
  match l[i]? with
  | some o => match o.dst with
    | some d => o.guard.isNone && Nat.blt d N && (look L0 d).isNone && (o.after.all fun e => !Region.binds .any e || decide (e.on < i)) && (List.range i).all fun j => !(((l[j]?).bind (·.dst)) == some d)
    | none => false
  | none => false
def growB (l : List Oper) (L0 : List (Nat × Value)) (N : Nat) : Bool := (List.range l.length).all (okB l L0 N)
def depsOf (o : Oper) : List Nat := (o.after.toList.filter (Region.binds .any)).map (·.on)
def depsAt (l : List Oper) (j : Nat) : List Nat :=
  match l[j]? with
  | some o => depsOf o
  | none => []
def allP (Φ : Nat → Prop) : List Nat → Prop
  | [] => True
  | j :: r => Φ j ∧ allP Φ r
theorem allP_of {Φ : Nat → Prop} : ∀ (l : List Nat), (∀ j ∈ l, Φ j) → allP Φ l
  | [], _ => trivial
  | j :: r, h => ⟨h j List.mem_cons_self, allP_of r fun k hk => h k (List.mem_cons_of_mem _ hk)⟩
def allO (Φ : Nat → Oper → Prop) : Nat → List Oper → Prop
  | _, [] => True
  | k, o :: r => Φ k o ∧ allO Φ (k + 1) r
theorem allO_at {Φ : Nat → Oper → Prop} : ∀ (l : List Oper) (k : Nat), allO Φ k l → ∀ i o, l[i]? = some o → Φ (k + i) o
  | [], _, _, i, o, h => by simp at h
  | p :: r, k, h, 0, o, g => by simp at g; subst g; exact h.1
  | p :: r, k, h, i + 1, o, g => by
    have := allO_at r (k + 1) h.2 i o (by simpa using g)
    rw [show k + (i + 1) = k + 1 + i by omega]; exact this

section
variable {P : Program} {l : List Oper} {Q : Exit → Act → World → Prop} {S : World → Prop} {N : Nat} {L0 : List (Nat × Value)} {Rs : List VW} {Fs : List Nat}

/-- What one operation must do. -/
def stepG' (P : Program) (l : List Oper) (Q : Exit → Act → World → Prop) (S : World → Prop) (N : Nat) (L0 : List (Nat × Value)) (Rs : List VW) (Fs : List Nat) (i : Nat) (o : Oper) : Prop :=
  ∀ a w, S w → Fr a N L0 → allP (fun j => rOf Rs j (slotV l a j) ((depsAt l j).map (slotV l a)) w) (depsOf o) →
    ∀ K : Act → World → Prop, (∀ v w', Below w.heap.size w w' → rOf Rs i v ((depsOf o).map (slotV l a)) w' → (∀ b, (bif memN Fs i then blkOf v else none) = some b → w.heap.size ≤ b ∧ b < w'.heap.size) → K (a.put o.dst v) w') → o.wp P a w K Q

structure GI (S : World → Prop) (N : Nat) (L0 : List (Nat × Value)) (l : List Oper) (Rs : List VW) (Fs : List Nat) (listed : Array Bool) (a : Act) (w : World) : Prop where
  s : S w
  f : Fr a N L0
  r : ∀ j, listed.getD j false = true → rOf Rs j (slotV l a j) ((depsAt l j).map (slotV l a)) w
  c : ∀ j, listed.getD j false = true → ∀ k ∈ depsAt l j, listed.getD k false = true
  b : ∀ j b, listed.getD j false = true → slotB l Fs a j = some b → b < w.heap.size
  d : ∀ j k b c, listed.getD j false = true → listed.getD k false = true → j ≠ k → slotB l Fs a j = some b → slotB l Fs a k = some c → b ≠ c

theorem ok_spec (hB : growB l L0 N = true) {i : Nat} (hi : i < l.length) : ∃ o d, l[i]? = some o ∧ o.dst = some d ∧ o.guard = none ∧ d < N ∧ look L0 d = none ∧ (∀ e ∈ o.after, Region.binds .any e = true → e.on < i) ∧ ∀ j, j < i → (l[j]?).bind (·.dst) ≠ some d := by
  have h := List.all_eq_true.1 hB i (List.mem_range.2 hi)
  unfold okB at h
  have ho : l[i]? = some l[i] := List.getElem?_eq_getElem hi
  rw [ho] at h
  simp only at h
  cases hd : (l[i]).dst with
  | none => rw [hd] at h; cases h
  | some d =>
    rw [hd] at h
    simp only [Bool.and_eq_true, Option.isNone_iff_eq_none, Nat.blt_eq] at h
    obtain ⟨⟨⟨⟨h1, h2⟩, h3⟩, h4⟩, h5⟩ := h
    refine ⟨_, d, ho, hd, h1, h2, h3, fun e he hb => ?_, fun j hj => ?_⟩
    · have := (Array.all_eq_true'.1 h4) e he
      simpa [hb] using this
    · have := List.all_eq_true.1 h5 j (List.mem_range.2 hj)
      simpa using this
theorem slot_ne (hB : growB l L0 N = true) {i j d : Nat} {o : Oper} (hi : l[i]? = some o) (hd : o.dst = some d) (hj : j < l.length) (hne : j ≠ i) (a : Act) (v : Value) : slotV l (a.put (some d) v) j = slotV l a j := by
  have hil : i < l.length := (List.getElem?_eq_some_iff.1 hi).1
  obtain ⟨oj, dj, hoj, hdj, _, _, _, _, hej⟩ := ok_spec hB hj
  obtain ⟨oi, di, hoi, hdi, _, _, _, _, hei⟩ := ok_spec hB hil
  rw [hi] at hoi
  cases hoi
  rw [hd] at hdi
  cases hdi
  have hdd : dj ≠ d := by
    intro e
    subst e
    rcases Nat.lt_or_gt_of_ne hne with h | h
    · exact hei j h (by rw [hoj]; exact hdj)
    · exact hej i h (by rw [hi]; exact hd)
  unfold slotV
  rw [hoj]
  simp only [Option.bind_some, hdj, Option.getD_some]
  simp [Act.put, Array.getD_eq_getD_getElem?, Ne.symm hdd]
theorem slot_eq {a : Act} {i d : Nat} {o : Oper} (f : Fr a N L0) (hi : l[i]? = some o) (hd : o.dst = some d) (hN : d < N) (v : Value) : slotV l (a.put (some d) v) i = v := by
  unfold slotV
  rw [hi]
  have hs := f.size
  simp [hd, Act.put, Array.getD_eq_getD_getElem?, hs, hN]

theorem all_of_empty' (hB : growB l L0 N = true) {listed : Array Bool} (hl : listed.size = l.length) (hr : Region.ready .any l.toArray listed = []) : ∀ i, i < l.length → listed.getD i false = true := by
  intro i
  induction i using Nat.strongRecOn with
  | _ i ih =>
    intro hi
    cases hg : listed.getD i false with
    | true => rfl
    | false =>
      exfalso
      obtain ⟨o, d, ho, _, _, _, _, he, _⟩ := ok_spec hB hi
      have hm : i ∈ Region.ready .any l.toArray listed := by
        rw [mem_ready]
        refine ⟨o, by simpa using ho, ?_, fun e hm hb => ?_⟩
        · simp only [Array.getD_eq_getD_getElem?, Array.getElem?_eq_getElem (show i < listed.size by omega), Option.getD_some] at hg ⊢
          exact hg
        · have := he e hm hb
          exact ih e.on this (by omega)
      rw [hr] at hm
      cases hm

def leftN (l : Array Bool) : Nat := l.toList.countP (fun b => !b)
theorem leftN_set {l : Array Bool} {i : Nat} (hi : l[i]? = some false) : leftN (l.setIfInBounds i true) + 1 = leftN l := by
  rcases l with ⟨l⟩
  have hi' : l[i]? = some false := by simpa using hi
  unfold leftN
  simp only [List.setIfInBounds_toArray]
  clear hi
  induction l generalizing i with
  | nil => simp at hi'
  | cons b l ih =>
    cases i with
    | zero =>
      simp only [List.getElem?_cons_zero, Option.some.injEq] at hi'
      subst hi'
      simp
    | succ i =>
      have := ih (by simpa using hi')
      simp only [List.set_cons_succ, List.countP_cons]
      omega
theorem getD_set_eq {l : Array Bool} {i : Nat} (h : i < l.size) (d : Bool) : (l.setIfInBounds i true).getD i d = true := by
  simp [Array.getD_eq_getD_getElem?, h]
theorem getD_set_other {l : Array Bool} {i j : Nat} (h : i ≠ j) (d : Bool) : (l.setIfInBounds i true).getD j d = l.getD j d := by
  simp [Array.getD_eq_getD_getElem?, h]

theorem wpAny_grow (hB : growB l L0 N = true) (hS : ∀ w w', S w → Below w.heap.size w w' → S w') (hR : ∀ j v vs w w', rOf Rs j v vs w → Below w.heap.size w w' → rOf Rs j v vs w')
    (hop : ∀ i o, l[i]? = some o → stepG' P l Q S N L0 Rs Fs i o)
    (hend : ∀ a w, GI S N L0 l Rs Fs (Array.replicate l.length true) a w → Q .normal a w) :
    ∀ (fuel : Nat) (listed : Array Bool) (a : Act) (w : World), listed.size = l.length → leftN listed ≤ fuel → GI S N L0 l Rs Fs listed a w → wpAny P .any l.toArray Q fuel listed a w := by
  have hfin : ∀ (listed : Array Bool) (a : Act) (w : World), listed.size = l.length → GI S N L0 l Rs Fs listed a w → Region.ready .any l.toArray listed = [] → Q .normal a w := by
    intro listed a w hl hI hr
    have hall := all_of_empty' hB hl hr
    have : listed = Array.replicate l.length true := by
      apply Array.ext_getElem?
      intro i
      by_cases hi : i < l.length
      · have := hall i hi
        simp only [Array.getD_eq_getD_getElem?, Array.getElem?_eq_getElem (show i < listed.size by omega), Option.getD_some] at this
        rw [Array.getElem?_eq_getElem (by omega), this]
        simp [hi]
      · rw [Array.getElem?_eq_none (by omega), Array.getElem?_eq_none (by simp; omega)]
    subst this
    exact hend a w hI
  have hstep : ∀ (listed : Array Bool) (a : Act) (w : World) (i : Nat), listed.size = l.length → GI S N L0 l Rs Fs listed a w → i ∈ Region.ready .any l.toArray listed →
      listed[i]? = some false ∧ ∀ K : Act → World → Prop, (∀ a' w', GI S N L0 l Rs Fs (listed.setIfInBounds i true) a' w' → K a' w') → wpOp P l.toArray Q i K a w := by
    intro listed a w i hl hI hi
    obtain ⟨o, ho, hun, hdep⟩ := mem_ready.1 hi
    have ho' : l[i]? = some o := by simpa using ho
    have hil : i < l.length := (List.getElem?_eq_some_iff.1 ho').1
    obtain ⟨o2, d, ho2, hd, hg, hN, hlk, _, _⟩ := ok_spec hB hil
    rw [ho'] at ho2
    cases ho2
    have hfal : listed[i]? = some false := by
      simp only [Array.getD_eq_getD_getElem?, Array.getElem?_eq_getElem (show i < listed.size by omega), Option.getD_some] at hun ⊢
      rw [hun]
    refine ⟨hfal, fun K hK => ?_⟩
    unfold wpOp
    rw [ho]
    simp only
    rw [if_pos (by simp [Region.wanted, hg])]
    left
    refine hop i o ho' a w hI.s hI.f (allP_of _ fun j hj => ?_) K ?_
    · unfold depsOf at hj
      simp only [List.mem_map, List.mem_filter, Array.mem_toList_iff] at hj
      obtain ⟨e, ⟨he, hb⟩, rfl⟩ := hj
      exact hI.r _ (hdep e he hb)
    · intro v w' hbw hrv hbk
      refine hK _ _ ?_
      rw [hd]
      have hun' : listed.getD i false = false := by simp [Array.getD_eq_getD_getElem?, hfal]
      have hne : ∀ j, (listed.setIfInBounds i true).getD j false = true → j ≠ i → listed.getD j false = true ∧ j < l.length := by
        intro j hj hji
        rw [getD_set_other (Ne.symm hji)] at hj
        refine ⟨hj, ?_⟩
        by_cases h : j < l.length
        · exact h
        · rw [Array.getD_eq_getD_getElem?, Array.getElem?_eq_none (by omega)] at hj
          cases hj
      have hsv := slot_eq (l := l) hI.f ho' hd hN v
      have hso : ∀ j, j < l.length → j ≠ i → slotV l (a.put (some d) v) j = slotV l a j := fun j h1 h2 => slot_ne hB ho' hd h1 h2 a v
      have hdl : ∀ k ∈ depsAt l i, listed.getD k false = true := by
        intro k hk
        unfold depsAt at hk
        rw [ho'] at hk
        simp only [depsOf, List.mem_map, List.mem_filter, Array.mem_toList_iff] at hk
        obtain ⟨e, ⟨he, hb⟩, rfl⟩ := hk
        exact hdep e he hb
      have hlt : ∀ k, listed.getD k false = true → k < l.length := by
        intro k hk
        by_cases h : k < l.length
        · exact h
        · rw [Array.getD_eq_getD_getElem?, Array.getElem?_eq_none (by omega)] at hk
          cases hk
      have hmap : ∀ j, (∀ k ∈ depsAt l j, listed.getD k false = true) → (depsAt l j).map (slotV l (a.put (some d) v)) = (depsAt l j).map (slotV l a) := by
        intro j hj
        refine List.map_congr_left fun k hk => ?_
        have hkl := hj k hk
        refine hso k (hlt k hkl) ?_
        intro e
        rw [e, hun'] at hkl
        cases hkl
      refine ⟨hS _ _ hI.s hbw, hI.f.off v hN hlk, fun j hj => ?_, fun j hj k hk => ?_, fun j b hj hb => ?_, fun j k b c hj hk hjk hb hc => ?_⟩
      · by_cases e : j = i
        · subst e
          rw [hsv, hmap _ hdl]
          unfold depsAt
          rw [ho']
          exact hrv
        · obtain ⟨h1, h2⟩ := hne j hj e
          rw [hso j h2 e, hmap j (hI.c j h1)]
          exact hR _ _ _ _ _ (hI.r j h1) hbw
      · by_cases e : k = i
        · rw [e]; exact getD_set_eq (by omega) false
        · rw [getD_set_other (Ne.symm e)]
          by_cases e' : j = i
          · rw [e'] at hk; exact hdl k hk
          · exact hI.c j (hne j hj e').1 k hk
      · unfold slotB at hb
        by_cases e : j = i
        · subst e; rw [hsv] at hb; exact (hbk b hb).2
        · obtain ⟨h1, h2⟩ := hne j hj e
          rw [hso j h2 e] at hb
          have := hI.b j b h1 hb
          have := hbw.size
          omega
      · unfold slotB at hb hc
        by_cases e : j = i
        · subst e
          rw [hsv] at hb
          obtain ⟨h1, h2⟩ := hne k hk (Ne.symm hjk)
          rw [hso k h2 (Ne.symm hjk)] at hc
          have h3 := (hbk b hb).1
          have h4 := hI.b k c h1 hc
          omega
        · obtain ⟨h1, h2⟩ := hne j hj e
          rw [hso j h2 e] at hb
          by_cases e' : k = i
          · subst e'
            rw [hsv] at hc
            have h3 := (hbk c hc).1
            have h4 := hI.b j b h1 hb
            omega
          · obtain ⟨h5, h6⟩ := hne k hk e'
            rw [hso k h6 e'] at hc
            exact hI.d j k b c h1 h5 hjk hb hc
  intro fuel
  induction fuel with
  | zero =>
    intro listed a w hl hc hI
    have hr : Region.ready .any l.toArray listed = [] := by
      rw [List.eq_nil_iff_forall_not_mem]
      intro i hi
      have := leftN_set (hstep listed a w i hl hI hi).1
      omega
    exact ⟨hr, hfin listed a w hl hI hr⟩
  | succ n ih =>
    intro listed a w hl hc hI
    refine ⟨fun hr => hfin listed a w hl hI hr, fun i hi => ?_⟩
    obtain ⟨h1, h2⟩ := hstep listed a w i hl hI hi
    refine h2 _ fun a' w' hI' => ih _ a' w' (by simpa using hl) ?_ hI'
    have := leftN_set h1
    omega

theorem gi_start {A : Act} {w : World} (f : Fr A N L0) (hs : S w) : GI S N L0 l Rs Fs (Array.replicate l.length false) A w := by
  have hno : ∀ j, (Array.replicate l.length false).getD j false = false := by
    intro j
    by_cases h : j < l.length <;> simp [Array.getD_eq_getD_getElem?, h]
  exact ⟨hs, f, fun j hj => False.elim (by rw [hno] at hj; cases hj), fun j hj => False.elim (by rw [hno] at hj; cases hj), fun j b hj => False.elim (by rw [hno] at hj; cases hj), fun j k b c hj => False.elim (by rw [hno] at hj; cases hj)⟩

theorem left_start (n : Nat) : leftN (Array.replicate n false) ≤ n := by
  unfold leftN
  have := List.countP_le_length (p := fun b => !b) (l := (Array.replicate n false).toList)
  simpa using this

/-- The region. -/
theorem sx_grow {id : Nat} {A : Act} {w : World} (Rs : List VW) (Fs : List Nat) (S : World → Prop) (f : Fr A N L0) (hm : P.follows .mixedOrders = true) (hB : growB l L0 N = true) (hS : ∀ w w', S w → Below w.heap.size w w' → S w') (hR : ∀ j v vs w w', rOf Rs j v vs w → Below w.heap.size w w' → rOf Rs j v vs w')
    (h0 : S { w with drawn := w.drawn + 1 }) (hop : allO (stepG' P l Q S N L0 Rs Fs) 0 l)
    (hend : ∀ a w, GI S N L0 l Rs Fs (Array.replicate l.length true) a w → Q .normal a w) : (Code.region id l.toArray true).wp P Q A w := by
  refine wp_region_any hm ?_
  have := wpAny_grow hB hS hR (fun i o hi => by have := allO_at l 0 hop i o hi; rwa [Nat.zero_add] at this) hend l.toArray.size (Array.replicate l.length false) A { w with drawn := w.drawn + 1 } (by simp) (by simpa using left_start l.length) (gi_start f h0)
  simpa using this
/-- The region, its last operation waits for all others. -/
theorem sx_growl {id n : Nat} {o : Oper} {A : Act} {w : World} (Rs : List VW) (Fs : List Nat) (S : World → Prop) (f : Fr A N L0) (hm : P.follows .mixedOrders = true) (hp : peelB .any l n = true) (ho : l[n]? = some o) (hB : growB (l.take n) L0 N = true) (hS : ∀ w w', S w → Below w.heap.size w w' → S w') (hR : ∀ j v vs w w', rOf Rs j v vs w → Below w.heap.size w w' → rOf Rs j v vs w')
    (h0 : S { w with drawn := w.drawn + 1 }) (hop : allO (stepG' P (l.take n) (lastQ P o Q) S N L0 Rs Fs) 0 (l.take n))
    (hend : ∀ a w, GI S N L0 (l.take n) Rs Fs (Array.replicate (l.take n).length true) a w → lastQ P o Q .normal a w) : (Code.region id l.toArray true).wp P Q A w := by
  refine wp_region_any hm ?_
  have h1 := (peel_spec hp).1
  have hn : (l.take n).length = n := by simp; omega
  have hg := wpAny_grow (P := P) (Q := lastQ P o Q) hB hS hR (fun i o hi => by have := allO_at (l.take n) 0 hop i o hi; rwa [Nat.zero_add] at this) hend n (Array.replicate n false) A { w with drawn := w.drawn + 1 } (by simp [hn]) (left_start n) (by have := gi_start (l := l.take n) (Rs := Rs) (Fs := Fs) f h0; rwa [hn] at this)
  have := wpAny_peel hp ho n (Array.replicate n false) A { w with drawn := w.drawn + 1 } (by simp) (fun j oj hj _ hg => by simp [Array.getD_eq_getD_getElem?, hj] at hg) hg
  have e : (Array.replicate n false).push false = Array.replicate l.toArray.size false := by
    rw [List.size_toArray, h1, Array.replicate_succ]
  rw [e] at this
  rw [List.size_toArray, h1]
  rw [List.size_toArray, h1] at this
  exact this
/-! One operation. -/
variable {a : Act} {w : World} {L : List (Nat × Value)} {o : Oper} {K : Act → World → Prop}
theorem g_val {v : Value} (f : Fr a N L) (hy : YC P (ClB w) L o v) (h : K (a.put o.dst v) w) : o.wp P a w K Q := by
  unfold Oper.wp
  rw [hy a.eval (fun x u hu => f.ev hu) w (Below.refl _ _), Oper.upon_value]
  exact h
theorem g_call {g : FuncId} {args : List Value} {R : Ending → World → Prop} (f : Fr a N L) (hc : IsCall L o g args) (hp : Plain P g) (hR : Calls P g args.toArray w R) (h : ∀ e w', R e w' → ∃ v, e = .returned v ∧ K (a.put o.dst v) w') : o.wp P a w K Q := by
  unfold Oper.wp
  rw [hc.run hp (fun x u hu => f.ev hu) w, Oper.upon_enter]
  refine hR.mono fun e w' he => ?_
  obtain ⟨v, rfl, hk⟩ := h e w' he
  exact hk
theorem g_alloc {t : TypeId} {z : Value} (ho : o.op = .alloc t) (hz : (P.info? t).map (·.zero) = some (some z))
    (h : ∀ b W, w.heap.size = b → Below w.heap.size w W → W.heap[b]? = some (.cells z.cells t (0, 0)) → K (a.put o.dst (.pointer (some ⟨b, 0, none⟩))) W) : o.wp P a w K Q := by
  simp only [Option.map_eq_some_iff] at hz
  obtain ⟨inf, hi, he⟩ := hz
  have hzv : (zeroValue t).run P w = .ok z w := by
    unfold zeroValue typeInfo
    simp [go_sem, hi, he]
  unfold Oper.wp
  have hr : (execOp a.eval o).run P w = .ok (.value (.pointer (some ⟨w.heap.size, 0, none⟩))) (w.alloc (.cells z.cells t)) := by
    simp [execOp, ho, Instr.alloc, newVar, newRow, go_sem, hzv]
  rw [hr, Oper.upon_value]
  exact h _ _ rfl ((Below.refl w.heap.size w).alloc (Nat.le_refl _) _) (by show (w.heap.push _)[w.heap.size]? = _; rw [Array.getElem?_push, if_pos rfl])
theorem g_store {t tt : TypeId} {x y : Operand} {b off n : Nat} {v : Value} {cs : List Value} (f : Fr a N L) (hd : o.dst = none) (ho : o.op = .store t x y) (hx : ev L x = some (.pointer (some ⟨b, off, none⟩))) (hy : ev L y = some v)
    (hrow : w.heap[b]? = some (.cells cs.toArray tt (0, 0))) (hs : szB P t = some n) (hn : v.cells.size = n) (hf : off + n ≤ cs.length) (h1 : (v.cells.toList.all (·.oneCell')) = true)
    (h : ∀ W, But b w W → W.heap[b]? = some (.cells (setL cs off v.cells.toList).toArray tt (0, 0)) → K a W) : o.wp P a w K Q := by
  obtain ⟨W, hr, hb, hw'⟩ := store_run (P := P) f ho hx hy hrow hs hn hf h1
  unfold Oper.wp
  rw [hr, Oper.upon_skip, hd]
  exact h W hb hw'
theorem rs_all {Rs : List VW} (h : ∀ r ∈ Rs, ∀ v vs w w', r v vs w → Below w.heap.size w w' → r v vs w') : ∀ j v vs w w', rOf Rs j v vs w → Below w.heap.size w w' → rOf Rs j v vs w' := by
  intro j v vs w w' hr hb
  unfold rOf at hr ⊢
  cases hj : Rs[j]? with
  | none => trivial
  | some r =>
    rw [hj] at hr
    exact h r (List.mem_of_getElem? hj) v vs w w' hr hb
end
end Go.Proofs.Ytbjlbmofdnkmiaa.Kit

/-
  OWN TEXT. Contracts of the document's answer: HeapCopy (written by sxcp.py).
-/
namespace Go.Proofs.Ytbjlbmofdnkmiaa
open Go Go.RowKit Go.Proofs.Ytbjlbmofdnkmiaa.Kit

theorem blk_owns {w w' : World} {e : TypeId} {ao : Option Addr} {n cap size : Nat} {xs : List Value} (h : w'.ownsRow w.heap.size e size (.slice ao n cap) n xs) : ∀ b, blkOf (.slice ao n cap) = some b → w.heap.size ≤ b ∧ b < w'.heap.size := by
  intro b hb
  cases ao with
  | none => cases hb
  | some a =>
    cases hb
    have := owns_blk h a rfl
    exact ⟨this.1, this.2.1⟩

theorem tk_succ (l : List Zc) (k : Nat) (h : k < l.length) {z : Zc} (hx : l.getD k .zero = z) : (l.take (k + 1)).map (·.z) = (l.take k).map (·.z) ++ [z.z] := by
  rw [List.getD_eq_getElem?_getD, List.getElem?_eq_getElem h] at hx
  simp only [Option.getD_some] at hx
  rw [List.take_succ_eq_append_getElem h, List.map_append, hx]
  rfl
theorem tk_succL (l : List Lc) (k : Nat) (h : k < l.length) {z : Lc} (hx : l.getD k .zero = z) : (l.take (k + 1)).map (·.l) = (l.take k).map (·.l) ++ [z.l] := by
  rw [List.getD_eq_getElem?_getD, List.getElem?_eq_getElem h] at hx
  simp only [Option.getD_some] at hx
  rw [List.take_succ_eq_append_getElem h, List.map_append, hx]
  rfl
theorem bs_zone (a b c d : Value) (w : World) : (Instr.buildSlice 23 1 #[(0, .agg #[a, b, c, d])]).run Try.prog w = .ok (.slice (some ⟨w.heap.size, 0, none⟩) 1 1) (w.alloc (.cells #[a, b, c, d] 44)) := by
  simp [go_sem]
theorem bs_list (a b c d : Value) (w : World) : (Instr.buildSlice 25 1 #[(0, .agg #[a, b, c, d])]).run Try.prog w = .ok (.slice (some ⟨w.heap.size, 0, none⟩) 1 1) (w.alloc (.cells #[a, b, c, d] 57)) := by
  simp [go_sem]
theorem cells4_new {w : World} {b : Nat} {t : TypeId} {p q r s : Value} (h : w.heap[b]? = some (.cells #[p, q, r, s] t (0, 0))) : ∀ j v, [p, q, r, s][j]? = some v → w.cell? ((⟨b, 0, none⟩ : Addr).add j) = some v := by
  intro j v hj
  have hadd : (⟨b, 0, none⟩ : Addr).add j = ⟨b, j, none⟩ := by unfold Addr.add; split <;> simp_all
  rw [hadd, cell_of_row w b j _ t (0, 0) h]
  simpa using hj

set_option maxRecDepth 10000 in
set_option maxHeartbeats 4000000 in
theorem heapCopy_own (w : World) (x : Hx) (hx : x.At w) :
    Calls Try.prog 14 #[.agg #[.slice x.zo x.zn x.zc, .slice x.mo x.mn x.mc, .int .i64 x.cpus, .slice x.lo x.ln x.lc, .slice x.vo x.vn x.vc]] w fun e w' => (∃ y : Hx, e = .returned (.agg #[.slice y.zo y.zn y.zc, .slice y.mo y.mn y.mc, .int .i64 y.cpus, .slice y.lo y.ln y.lc, .slice y.vo y.vn y.vc]) ∧ y.hp = x.hp ∧ HcpI w' w.heap.size y ∧ ∀ b, b < w.heap.size → Away b y) ∧ Below w.heap.size w w' := by
  have B0 := Below.refl w.heap.size w
  refine sx_enter (args := [_]) 59 Try.func14 rfl rfl rfl ?_
  intro A f
  refine wp_seq ?_
  refine sx_list ?_
  refine l_box f rfl rfl rfl rfl rfl ?_; clear f A; intro b1 W2 eb1 hb3 rb1 A f; dsimp only [Value.cells] at rb1
  have z_B0_b1 := B0.size; rw [eb1] at z_B0_b1
  replace B0 := Below.next B0 hb3
  refine l_alloc (z := .agg #[.slice none 0 0, .slice none 0 0, .int .i64 0, .slice none 0 0, .slice none 0 0]) f rfl rfl rfl rfl (by kernel_rfl) ?_; clear f A; intro b4 W5 eb4 hb6 rb4 A f; dsimp only [Value.cells] at rb4
  have o_b1_b4 : b1 < b4 := by have := row_lt rb1; omega
  have z_B0_b4 := B0.size; rw [eb4] at z_B0_b4
  replace B0 := Below.next B0 hb6; replace rb1 := row_next rb1 hb6
  refine wpList_nil ?_
  refine x_tn ?_
  refine wp_seq ?_
  obtain ⟨Wd, hWd0⟩ : ∃ Wd, Wd = W5 := ⟨_, rfl⟩
  obtain ⟨s0, hs0⟩ : ∃ n, n = W5.heap.size := ⟨_, rfl⟩
  refine sx_growl (n := 10) [fun v _ _ => v = .pointer (some ⟨b1, 0 + 1, none⟩), fun v _ _ => v = .slice x.mo x.mn x.mc, fun v _ w => ∃ bo c, v = .slice bo x.mn c ∧ w.ownsRow s0 3 1 (.slice bo x.mn c) x.mn (vals x.mins), fun v _ _ => v = .pointer (some ⟨b1, 0 + 2, none⟩), fun v _ _ => v = .int .i64 x.cpus, fun v _ _ => v = .pointer (some ⟨b1, 0 + 4, none⟩), fun v _ _ => v = .slice x.vo x.vn x.vc, fun v _ w => ∃ bo c, v = .slice bo x.vn c ∧ w.ownsRow s0 63 3 (.slice bo x.vn c) x.vn (bvals x.live), fun v vs _ => ∃ v1 v2 v3, vs = [v1, v2, v3] ∧ v = .agg #[.slice none 0 0, v1, v2, .slice none 0 0, v3], fun v _ w => ∃ b, v = .pointer (some ⟨b, 0, none⟩) ∧ w.heap[b]? = some (.cells #[.slice none 0 0, .slice none 0 0, .int .i64 0, .slice none 0 0, .slice none 0 0] 28 (0, 0)) ∧ s0 ≤ b] [2, 7, 9] (fun wx => Below W5.heap.size W5 wx) f (by kernel_rfl) (by kernel_rfl) rfl (by kernel_rfl) (fun _ _ h hb => Below.next h hb) (rs_all ?_) ((Below.refl _ _).drew) ?_ ?_
  · intro r hr
    simp only [List.mem_cons, List.not_mem_nil, or_false] at hr
    rcases hr with rfl | rfl | rfl | rfl | rfl | rfl | rfl | rfl | rfl | rfl
    · exact fun _ _ _ _ h _ => h
    · exact fun _ _ _ _ h _ => h
    · rintro v vs w1 w2 ⟨bo, c, e1, ho⟩ hb; exact ⟨bo, c, e1, owns_below ho hb (Nat.le_refl _)⟩
    · exact fun _ _ _ _ h _ => h
    · exact fun _ _ _ _ h _ => h
    · exact fun _ _ _ _ h _ => h
    · exact fun _ _ _ _ h _ => h
    · rintro v vs w1 w2 ⟨bo, c, e1, ho⟩ hb; exact ⟨bo, c, e1, owns_below ho hb (Nat.le_refl _)⟩
    · exact fun _ _ _ _ h _ => h
    · rintro v vs w1 w2 ⟨b, e1, hr, hb0⟩ hb; exact ⟨b, e1, row_next hr hb, hb0⟩
  · refine ⟨?_, ?_, ?_, ?_, ?_, ?_, ?_, ?_, ?_, ?_, trivial⟩
    · intro a w1 hS g hd K hK
      exact g_val g (y_field rfl rfl (fo rfl)) (hK _ _ (Below.refl _ _) rfl (fun b hb => absurd (show none = some b from hb) (by simp)))
    · intro a w1 hS g hd K hK
      obtain ⟨h0, -⟩ := hd
      replace g := g.more (d := 8) h0
      exact g_val g (y_load1 rfl rfl (ag rfl) (rowl (rowq (row_next rb1 hS)) rfl)) (hK _ _ (Below.refl _ _) rfl (fun b hb => absurd (show none = some b from hb) (by simp)))
    · intro a w1 hS g hd K hK
      obtain ⟨h0, -⟩ := hd
      replace g := g.more (d := 9) h0
      refine g_call g (IsCall.mk' (cap := []) rfl rfl rfl) (pl rfl) (words_any w1 x.mo x.mn x.mc x.mins hx.mins.len hx.mins.reach ((hx.mins.below (Below.next B0 hS)).at_)) ?_
      rintro e w2 ⟨bo, c, rfl, ho, hb⟩
      exact ⟨_, rfl, hK _ _ hb ⟨bo, c, rfl, owns_weaken ho (by rw [hs0]; exact hS.size)⟩ (blk_owns ho)⟩
    · intro a w1 hS g hd K hK
      exact g_val g (y_field rfl rfl (fo rfl)) (hK _ _ (Below.refl _ _) rfl (fun b hb => absurd (show none = some b from hb) (by simp)))
    · intro a w1 hS g hd K hK
      obtain ⟨h0, -⟩ := hd
      replace g := g.more (d := 11) h0
      exact g_val g (y_load1 rfl rfl (ag rfl) (rowl (rowq (row_next rb1 hS)) rfl)) (hK _ _ (Below.refl _ _) rfl (fun b hb => absurd (show none = some b from hb) (by simp)))
    · intro a w1 hS g hd K hK
      exact g_val g (y_field rfl rfl (fo rfl)) (hK _ _ (Below.refl _ _) rfl (fun b hb => absurd (show none = some b from hb) (by simp)))
    · intro a w1 hS g hd K hK
      obtain ⟨h0, -⟩ := hd
      replace g := g.more (d := 13) h0
      exact g_val g (y_load1 rfl rfl (ag rfl) (rowl (rowq (row_next rb1 hS)) rfl)) (hK _ _ (Below.refl _ _) rfl (fun b hb => absurd (show none = some b from hb) (by simp)))
    · intro a w1 hS g hd K hK
      obtain ⟨h0, -⟩ := hd
      replace g := g.more (d := 14) h0
      refine g_call g (IsCall.mk' (cap := []) rfl rfl rfl) (pl rfl) (blocksCopy_any w1 x.vo x.vn x.vc x.live (hx.live.below (Below.next B0 hS))) ?_
      rintro e w2 ⟨bo, c, rfl, ho, hb⟩
      exact ⟨_, rfl, hK _ _ hb ⟨bo, c, rfl, owns_weaken ho (by rw [hs0]; exact hS.size)⟩ (blk_owns ho)⟩
    · intro a w1 hS g hd K hK
      obtain ⟨⟨m1, m2, h0, -⟩, h1, ⟨m3, m4, h2, -⟩, -⟩ := hd
      have g1 := ((g.more (d := 10) h0).more (d := 12) h1).more (d := 15) h2
      exact g_val g1 (y_build #[.slice none 0 0, .slice m1 x.mn m2, .int .i64 x.cpus, .slice none 0 0, .slice m3 x.vn m4] rfl rfl (by kernel_rfl)) (hK _ _ (Below.refl _ _) ⟨_, _, _, rfl, by first | rfl | (rw [h0, h1, h2])⟩ (fun b hb => absurd (show none = some b from hb) (by simp)))
    · intro a w1 hS g hd K hK
      exact g_alloc (z := .agg #[.slice none 0 0, .slice none 0 0, .int .i64 0, .slice none 0 0, .slice none 0 0]) rfl (by kernel_rfl) (fun b W1 e1 hb hr => hK _ _ hb ⟨b, rfl, hr, by have := hS.size; omega⟩ (fun b' hb' => by cases hb'; exact ⟨Nat.le_of_eq e1, row_lt hr⟩))
  · intro a w1 G
    have hS := G.s
    obtain ⟨mo, mc, em, om⟩ := G.r 2 rfl
    have ec := G.r 4 rfl
    obtain ⟨vo, vc, ev', ov⟩ := G.r 7 rfl
    obtain ⟨v1, v2, v3, e8, e8'⟩ := G.r 8 rfl
    obtain ⟨b3, eb, rb3, hb3⟩ := G.r 9 rfl
    have hm3 : ∀ a, mo = some a → a.block ≠ b3 := by
      intro a ha
      subst ha
      exact G.d 2 9 _ _ rfl rfl (by decide) (by show blkOf _ = _; rw [em]; rfl) (by show blkOf _ = _; rw [eb]; rfl)
    have hv3 : ∀ a, vo = some a → a.block ≠ b3 := by
      intro a ha
      subst ha
      exact G.d 7 9 _ _ rfl rfl (by decide) (by show blkOf _ = _; rw [ev']; rfl) (by show blkOf _ = _; rw [eb]; rfl)
    have e9 : [slotV _ a 2, slotV _ a 4, slotV _ a 7] = [v1, v2, v3] := e8
    simp only [List.cons.injEq, and_true] at e9
    obtain ⟨q1, q2, q3⟩ := e9
    rw [em] at q1
    have q2' : Value.int .i64 x.cpus = v2 := ec.symm.trans q2
    rw [ev'] at q3
    subst q1 q2' q3
    have g := (G.f.more (d := 3) eb).more (d := 16) e8'
    show Oper.wp _ _ _ _ _ _
    refine g_store g rfl rfl rfl rfl rb3 (sz rfl) rfl (Nat.le_of_ble_eq_true rfl) rfl ?_
    intro W7 hbt rb3'
    dsimp only [setL, over, Value.cells] at rb3'
    have hlt1 := row_lt rb1
    have hlt4 := row_lt rb4
    replace B0 : Below w.heap.size w W7 := Below.thenBut (Below.next B0 hS) hbt (by have := B0.size; omega)
    replace rb1 := But.row hbt (row_next rb1 hS) (by omega)
    replace rb4 := But.row hbt (row_next rb4 hS) (by omega)
    have hs1 : w.heap.size ≤ s0 := by rw [hs0]; exact Nat.le_trans (by omega) (Nat.le_of_lt hlt1)
    have HC : HcpI W7 w.heap.size ⟨[], none, 0, 0, x.mins, mo, x.mn, mc, x.cpus, [], none, 0, 0, x.live, vo, x.vn, vc⟩ := by
      have om' := owns_butN om hbt hm3
      have ov' := owns_butN ov hbt hv3
      exact ⟨⟨rfl, .inl ⟨rfl, rfl⟩⟩, ⟨rfl, .inl ⟨rfl, rfl⟩⟩, ⟨Zons.nil _, nums_of_owns om' hx.mins.reach, Lsts.nil _, ⟨bowns_len ov', hx.live.reach, blks_of_owns ov'⟩⟩, fun a ha => (by cases ha), fun a ha => (by cases ha), fun a b ha => (by cases ha)⟩
    have hb13 : b1 ≠ b3 := by omega
    have hb43 : b4 ≠ b3 := by omega
    have hm1 : ∀ a, mo = some a → s0 ≤ a.block := fun a ha => (owns_blk om a ha).1
    have hv1 : ∀ a, vo = some a → s0 ≤ a.block := fun a ha => (owns_blk ov a ha).1
    clear om ov rb3 hbt hS em q2 ec ev' e8 e8' eb G f
    clear A
    revert g
    revert a
    intro A f
    have HQ : HcQ w W7 b1 b4 b3 x ⟨[], none, 0, 0, x.mins, mo, x.mn, mc, x.cpus, [], none, 0, 0, x.live, vo, x.vn, vc⟩ :=
      ⟨B0, rb1, rb4, rb3', HC, fun a ha => (by cases ha), fun a ha => (by cases ha), ⟨fun z hz => (by cases hz), fun z hz => (by cases hz), fun _ => hm3, fun _ a ha => (by cases ha), fun l hl => (by cases hl), fun _ => hv3⟩ , ⟨fun z hz => (by cases hz), fun z hz => (by cases hz), fun _ a ha => (by have := hm1 a ha; omega), fun _ a ha => (by cases ha), fun l hl => (by cases hl), fun _ a ha => (by have := hv1 a ha; omega)⟩, fun b hb => ⟨fun z hz => (by cases hz), fun z hz => (by cases hz), fun _ a ha => (by have := hm1 a ha; omega), fun _ a ha => (by cases ha), fun l hl => (by cases hl), fun _ a ha => (by have := hv1 a ha; omega)⟩, rfl, rfl, rfl, ⟨by omega, by omega, by omega, hb13, hb43⟩⟩
    clear HC rb1 rb4 rb3' B0
    show Exit.then _ _ .normal A W7
    refine x_tn ?_
    refine wp_seq ?_
    refine wp_seq ?_
    refine sx_list ?_
    refine l_do f rfl rfl rfl (y_assign rfl rfl) ?_; clear f A; intro A f
    refine wpList_nil ?_
    refine x_tn ?_
    refine wp_block ?_
    refine x_loop (fun n A W => ∃ (k : Nat) (y : Hx), n = x.zn - k ∧ k ≤ x.zn ∧ Fr A 59 [(1, .pointer (some ⟨b1, 0, none⟩)), (2, .pointer (some ⟨b4, 0, none⟩)), (3, .pointer (some ⟨b3, 0, none⟩)), (4, .int .i64 (k : Nat))] ∧ HcQ w W b1 b4 b3 x y ∧ y.zn = k ∧ y.zs.map (·.z) = (x.zs.take k).map (·.z) ∧ y.ls = [] ∧ y.ln = 0) (n0 := x.zn) (⟨0, _, rfl, Nat.zero_le _, f.sub ⟨rfl, rfl, rfl, rfl, trivial⟩, HQ, rfl, rfl, rfl, rfl⟩) ?_
    clear f A
    clear HQ
    rintro n A W7 ⟨k, y, hn, hk, f, HQ, hyn, hyz, hyl, hyn0⟩
    have B0 := HQ.B
    have rb1 := HQ.r1
    have rb4 := HQ.r4
    have rb3 := HQ.r3
    have zrch := hx.zones.reach
    refine wp_seq ?_
    refine wp_seq ?_
    refine sx_list ?_
    refine l_do f rfl rfl rfl (y_move rfl rfl) ?_; clear f A; intro A f
    refine l_do f rfl rfl rfl (y_field rfl rfl (fo rfl)) ?_; clear f A; intro A f
    refine l_do f rfl rfl rfl (y_load1 rfl rfl (ag rfl) (rowl (rowq rb1) rfl)) ?_; clear f A; intro A f
    refine l_do f rfl rfl rfl (y_len rfl rfl (sl rfl)) ?_; clear f A; intro A f
    refine l_if _ f rfl rfl rfl (y_lss rfl rfl rfl) ?_ ?_
    · clear f A; intro c8 A f
      refine wpList_nil ?_
      refine x_tn ?_
      refine x_condT f rfl ?_
      refine wp_skip ?_
      refine x_tn ?_
      refine wp_seq ?_
      refine wp_block ?_
      refine wp_seq ?_
      refine sx_list ?_
      refine l_do f rfl rfl rfl (y_field rfl rfl (fo rfl)) ?_; clear f A; intro A f
      refine l_do f rfl rfl rfl (y_load1 rfl rfl (ag rfl) (rowl (rowq rb1) rfl)) ?_; clear f A; intro A f
      refine l_do f rfl rfl rfl (y_move rfl rfl) ?_; clear f A; intro A f
      obtain ⟨gi, oi, zi, foi, fni, fci, toi, tni, tci, hai, c0i, c1i, c2i, c3i, hati, hXi⟩ := hx.zones.at (k) (by omega)
      replace c0i := St.of c0i; replace c1i := St.of c1i; replace c2i := St.of c2i; replace c3i := St.of c3i
      refine l_do f rfl rfl rfl (y_index rfl rfl (by first | rfl | assumption) rfl (es rfl) (by omega)) ?_; clear f A; intro A f
      refine l_do f rfl rfl rfl (y_loadN (vs := [_, _, _, _]) rfl rfl (ag rfl) rfl ⟨(by first | assumption | exact St.q c0i B0 | exact St.q c1i B0 | exact St.q c2i B0 | exact St.q c3i B0), (by first | assumption | exact St.q c0i B0 | exact St.q c1i B0 | exact St.q c2i B0 | exact St.q c3i B0), (by first | assumption | exact St.q c0i B0 | exact St.q c1i B0 | exact St.q c2i B0 | exact St.q c3i B0), (by first | assumption | exact St.q c0i B0 | exact St.q c1i B0 | exact St.q c2i B0 | exact St.q c3i B0), trivial⟩) ?_; clear f A; intro A f
      have hqs := HQ.lt
      have BQ := Below.refl W7.heap.size W7
      refine l_call f rfl rfl rfl (IsCall.mk' (cap := []) rfl rfl rfl) (pl rfl) (zoneCopy_any _ _ _ _ _ _ _ zi (hati.below B0)) ?_
      clear f A
      rintro _ W9 ⟨⟨fo2, fn2, fc2, to2, tn2, tc2, rfl, hz2, hf2, ht2⟩, hb10⟩
      refine ⟨_, rfl, ?_⟩
      intro A f
      replace B0 := Below.next B0 hb10; replace HQ := HQ.below hb10; replace BQ := Below.next BQ hb10; replace rb1 := row_next rb1 hb10; replace rb4 := row_next rb4 hb10; replace rb3 := row_next rb3 hb10
      refine l_as (z := .agg #[.int .i64 0, .int .i64 0, .slice none 0 0, .slice none 0 0]) f rfl rfl rfl rfl (by kernel_rfl) rfl rfl (fun _ => rfl) (fun _ => rfl) rfl (by intro u hu; simp [Value.cells] at hu; rcases hu with rfl | rfl | rfl | rfl <;> rfl) ?_; clear f A; intro b11 W12 eb11 hb13 rb11 A f
      dsimp only [Value.cells] at rb11
      have hpb11 := hb13
      have o_b1_b11 : b1 < b11 := by have := row_lt rb1; omega
      have o_b4_b11 : b4 < b11 := by have := row_lt rb4; omega
      have o_b3_b11 : b3 < b11 := by have := row_lt rb3; omega
      have z_B0_b11 := B0.size; rw [eb11] at z_B0_b11
      have z_BQ_b11 := BQ.size; rw [eb11] at z_BQ_b11
      replace B0 := Below.next B0 hb13; replace HQ := HQ.below hb13; replace BQ := Below.next BQ hb13; replace hz2 := hz2.below hb13; replace rb1 := row_next rb1 hb13; replace rb4 := row_next rb4 hb13; replace rb3 := row_next rb3 hb13
      refine wpList_nil ?_
      refine x_tn ?_
      refine sx_list ?_
      refine l_do f rfl rfl rfl (y_field rfl rfl (fo rfl)) ?_; clear f A; intro A f
      refine l_do f rfl rfl rfl (y_load1 rfl rfl (ag rfl) (rowl (rowq rb3) rfl)) ?_; clear f A; intro A f
      refine l_do f rfl rfl rfl (y_loadN (vs := [_, _, _, _]) rfl rfl (ag rfl) rfl (rowls (rowq rb11) _ _ ⟨rfl, rfl, rfl, rfl, trivial⟩)) ?_; clear f A; intro A f
      refine l_opR (R := fun v W => v = .slice (some ⟨W12.heap.size, 0, none⟩) 1 1 ∧ Below W12.heap.size W12 W ∧ W.heap[W12.heap.size]? = some (.cells #[.int .i64 zi.f, .int .i64 zi.t, .slice fo2 fn2 fc2, .slice to2 tn2 tc2] 44 (0, 0))) f rfl rfl rfl ⟨_, _, bs_exec f rfl rfl (bs_zone _ _ _ _ _), rfl, (Below.refl _ _).alloc (Nat.le_refl _) _, by show (Array.push _ _)[_]? = _; rw [Array.getElem?_push, if_pos rfl]⟩ ?_
      clear f A
      rintro _ W14 ⟨rfl, hb15, rbn⟩ A f
      replace B0 := Below.next B0 hb15; replace HQ := HQ.below hb15; replace BQ := Below.next BQ hb15; replace hz2 := hz2.below hb15; replace rb1 := row_next rb1 hb15; replace rb4 := row_next rb4 hb15; replace rb3 := row_next rb3 hb15; replace rb11 := row_next rb11 hb15
      obtain ⟨i1, hj, hy0, hy1, hy2⟩ := info_parts info_zone
      have hsq := HQ.B.size
      obtain ⟨g', cap', W9, hrun, ow, hcs⟩ := append_row (P := Try.prog) W14 w.heap.size 23 23 44 i1 _ 4 Try.underlying23 hj hy0 hy1 rfl y.zo y.zn y.zc (c4 (y.zs.map Zc.q)) HQ.C.oz ⟨_, 0, none⟩ 1 1 [.int .i64 zi.f, .int .i64 zi.t, .slice fo2 fn2 fc2, .slice to2 tn2 tc2] rfl (cells4_new rbn) (by intro u hu; simp only [List.mem_cons, List.not_mem_nil, or_false] at hu; rcases hu with rfl | rfl | rfl | rfl <;> rfl) (by omega) (by unfold maxLen; omega) (by rw [hy2]; omega) hsq
      refine l_opR (R := fun v W => v = .slice (some ⟨g', 0, none⟩) (y.zn + 1) cap' ∧ W9 = W) f rfl rfl rfl ⟨_, _, append_exec f rfl rfl rfl hrun, rfl, rfl⟩ ?_
      clear f A
      rintro _ _ ⟨rfl, rfl⟩ A f
      have HQw := HQ
      clear HQ
      have hgg := (HQw.z3)
      have hg3 : g' ≠ b3 := by rcases hcs with ⟨e, _⟩ | ⟨e, _⟩; exact (HQw.z3 _ e).1; have := HQw.lt; omega
      have hrow : ∀ {u}, W14.heap[b3]? = some u → W9.heap[b3]? = some u := by intro u h; rcases hcs with ⟨_, e⟩ | ⟨_, e⟩; exact But.row e h (Ne.symm hg3); exact row_next h e
      replace rb3 := hrow rb3
      refine l_do f rfl rfl rfl (y_field rfl rfl (fo rfl)) ?_; clear f A; intro A f
      refine l_store f rfl rfl rfl rfl rfl rb3 (sz rfl) rfl (Nat.le_of_ble_eq_true rfl) rfl ?_
      clear rb3; intro W17 hb18 rb3; dsimp only [setL, over, Value.cells] at rb3; have HQ2 := HcQ.addZ (z := ⟨zi, fo2, fn2, fc2, to2, tn2, tc2⟩) HQw (by omega) BQ.size ⟨hqs.1, hqs.2.1, hqs.2.2.1, hqs.2.2.2.1, hqs.2.2.2.2⟩ hz2 hf2 ht2 ow hcs hb18 rb3
      refine wpList_nil ?_
      refine x_bn ?_
      refine x_tn ?_
      refine sx_list ?_
      refine l_do f rfl rfl rfl (y_move rfl rfl) ?_; clear f A; intro A f
      refine l_do f rfl rfl rfl (y_add rfl rfl rfl rfl (by omega)) ?_; clear f A; intro A f
      refine l_do f rfl rfl rfl (y_assign rfl rfl) ?_; clear f A; intro A f
      refine wpList_nil ?_
      refine x_tn ?_
      exact ⟨x.zn - (k + 1), by omega, k + 1, _, rfl, by omega, f.sub ⟨rfl, rfl, rfl, rfl, trivial⟩, HQ2, by show y.zn + 1 = k + 1; omega, by show (y.zs ++ [_]).map _ = _; rw [List.map_append, hyz, tk_succ x.zs k (by have := hx.zones.len; omega) hXi.out]; rfl, hyl, hyn0⟩
    · clear f A; intro c8 A f
      refine wpList_nil ?_
      refine x_tn ?_
      refine x_condF f rfl ?_
      refine wp_exit ?_
      refine x_te ?_
      refine x_te ?_
      refine x_bh ?_
      refine x_tn ?_
      refine wp_seq ?_
      refine wp_seq ?_
      refine sx_list ?_
      refine l_do f rfl rfl rfl (y_assign rfl rfl) ?_; clear f A; intro A f
      refine wpList_nil ?_
      refine x_tn ?_
      refine wp_block ?_
      have hk3 : k = x.zn := by omega
      have hyn8 : y.zn = x.zn := by omega
      have hyz8 : y.zs.map (·.z) = x.zs.map (·.z) := by rw [hyz, hk3, List.take_of_length_le (by have := hx.zones.len; omega)]
      refine x_loop (fun n A W => ∃ (k : Nat) (y : Hx), n = x.ln - k ∧ k ≤ x.ln ∧ Fr A 59 [(1, .pointer (some ⟨b1, 0, none⟩)), (2, .pointer (some ⟨b4, 0, none⟩)), (3, .pointer (some ⟨b3, 0, none⟩)), (6, .int .i64 (k : Nat))] ∧ HcQ w W b1 b4 b3 x y ∧ y.zn = x.zn ∧ y.zs.map (·.z) = x.zs.map (·.z) ∧ y.ln = k ∧ y.ls.map (·.l) = (x.ls.take k).map (·.l)) (n0 := x.ln) (⟨0, y, rfl, Nat.zero_le _, f.sub ⟨rfl, rfl, rfl, rfl, trivial⟩, HQ, hyn8, hyz8, hyn0, by rw [hyl]; rfl⟩) ?_
      clear f A
      clear HQ hyn8 hyz8 hyl hyn0 hyn hyz hn hk hk3 c8 B0 rb1 rb4 rb3
      rintro n A W19 ⟨k, y, hn, hk, f, HQ, hyn, hyz, hyl, hyls⟩
      have B0 := HQ.B
      have rb1 := HQ.r1
      have rb4 := HQ.r4
      have rb3 := HQ.r3
      have lrch := hx.lists.reach
      refine wp_seq ?_
      refine wp_seq ?_
      refine sx_list ?_
      refine l_do f rfl rfl rfl (y_move rfl rfl) ?_; clear f A; intro A f
      refine l_do f rfl rfl rfl (y_field rfl rfl (fo rfl)) ?_; clear f A; intro A f
      refine l_do f rfl rfl rfl (y_load1 rfl rfl (ag rfl) (rowl (rowq rb1) rfl)) ?_; clear f A; intro A f
      refine l_do f rfl rfl rfl (y_len rfl rfl (sl rfl)) ?_; clear f A; intro A f
      refine l_if _ f rfl rfl rfl (y_lss rfl rfl rfl) ?_ ?_
      · clear f A; intro c20 A f
        refine wpList_nil ?_
        refine x_tn ?_
        refine x_condT f rfl ?_
        refine wp_skip ?_
        refine x_tn ?_
        refine wp_seq ?_
        refine wp_block ?_
        refine wp_seq ?_
        refine sx_list ?_
        refine l_do f rfl rfl rfl (y_field rfl rfl (fo rfl)) ?_; clear f A; intro A f
        refine l_do f rfl rfl rfl (y_load1 rfl rfl (ag rfl) (rowl (rowq rb1) rfl)) ?_; clear f A; intro A f
        refine l_do f rfl rfl rfl (y_move rfl rfl) ?_; clear f A; intro A f
        have hqs := HQ.lt
        have BQ := Below.refl W19.heap.size W19
        obtain ⟨gi, oi, lci, lzi, lti, lpi, poi, pni, pci, hai, c0i, c1i, c2i, c3i, hati, hXi⟩ := hx.lists.at (k) (by omega)
        replace c0i := St.of c0i; replace c1i := St.of c1i; replace c2i := St.of c2i; replace c3i := St.of c3i
        refine l_do f rfl rfl rfl (y_index rfl rfl (by first | rfl | assumption) rfl (es rfl) (by omega)) ?_; clear f A; intro A f
        refine l_do f rfl rfl rfl (y_loadN (vs := [_, _, _, _]) rfl rfl (ag rfl) rfl ⟨(by first | assumption | exact St.q c0i B0 | exact St.q c1i B0 | exact St.q c2i B0 | exact St.q c3i B0), (by first | assumption | exact St.q c0i B0 | exact St.q c1i B0 | exact St.q c2i B0 | exact St.q c3i B0), (by first | assumption | exact St.q c0i B0 | exact St.q c1i B0 | exact St.q c2i B0 | exact St.q c3i B0), (by first | assumption | exact St.q c0i B0 | exact St.q c1i B0 | exact St.q c2i B0 | exact St.q c3i B0), trivial⟩) ?_; clear f A; intro A f
        refine l_as (z := .agg #[.int .i64 0, .int .i64 0, .int .i64 0, .slice none 0 0]) f rfl rfl rfl rfl (by kernel_rfl) rfl rfl (fun _ => rfl) (fun _ => rfl) rfl (by intro u hu; simp [Value.cells] at hu; rcases hu with rfl | rfl | rfl | rfl <;> rfl) ?_; clear f A; intro b21 W22 eb21 hb23 rb21 A f
        dsimp only [Value.cells] at rb21
        have hpb21 := hb23
        have o_b1_b21 : b1 < b21 := by have := row_lt rb1; omega
        have o_b4_b21 : b4 < b21 := by have := row_lt rb4; omega
        have o_b3_b21 : b3 < b21 := by have := row_lt rb3; omega
        have z_B0_b21 := B0.size; rw [eb21] at z_B0_b21
        have z_BQ_b21 := BQ.size; rw [eb21] at z_BQ_b21
        replace B0 := Below.next B0 hb23; replace BQ := Below.next BQ hb23; replace rb1 := row_next rb1 hb23; replace rb4 := row_next rb4 hb23; replace rb3 := row_next rb3 hb23
        refine wpList_nil ?_
        refine x_tn ?_
        refine wp_seq ?_
        refine sx_list ?_
        refine l_do f rfl rfl rfl (y_field rfl rfl (fo rfl)) ?_; clear f A; intro A f
        refine l_do f rfl rfl rfl (y_load1 rfl rfl (ag rfl) (rowl (rowq rb21) rfl)) ?_; clear f A; intro A f
        have hb7 := row_lt rb21
        have hbq7 := BQ.size
        refine l_call f rfl rfl rfl (IsCall.mk' (cap := []) rfl rfl rfl) (pl rfl) (words_any _ _ _ _ lpi hati.len hati.reach (hati.below B0).at_) ?_
        clear f A
        rintro _ W24 ⟨po2, pc2, rfl, ow2, hb25⟩
        refine ⟨_, rfl, ?_⟩
        intro A f
        replace B0 := Below.next B0 hb25; replace BQ := Below.next BQ hb25; replace rb1 := row_next rb1 hb25; replace rb4 := row_next rb4 hb25; replace rb3 := row_next rb3 hb25; replace rb21 := row_next rb21 hb25
        refine l_do f rfl rfl rfl (y_field rfl rfl (fo rfl)) ?_; clear f A; intro A f
        refine l_store f rfl rfl rfl rfl rfl rb21 (sz rfl) rfl (Nat.le_of_ble_eq_true rfl) rfl ?_
        clear rb21; intro W26 hb27 rb21; dsimp only [setL, over, Value.cells] at rb21; replace B0 := Below.thenBut B0 hb27 (by omega); replace BQ := Below.thenBut BQ hb27 (by omega); replace rb1 := But.row hb27 rb1 (by omega); replace rb4 := But.row hb27 rb4 (by omega); replace rb3 := But.row hb27 rb3 (by omega); have ow3 := owns_butN ow2 hb27 (fun a ha => by have := (owns_blk ow2 a ha).1; omega); have hz2 := nums_of_owns ow3 hati.reach; have hq2 : ∀ a, po2 = some a → _ ≤ a.block := fun a ha => Nat.le_trans hbq7 (owns_blk ow2 a ha).1
        refine wpList_nil ?_
        refine x_tn ?_
        refine sx_list ?_
        refine l_do f rfl rfl rfl (y_field rfl rfl (fo rfl)) ?_; clear f A; intro A f
        refine l_do f rfl rfl rfl (y_load1 rfl rfl (ag rfl) (rowl (rowq rb3) rfl)) ?_; clear f A; intro A f
        refine l_do f rfl rfl rfl (y_loadN (vs := [_, _, _, _]) rfl rfl (ag rfl) rfl (rowls (rowq rb21) _ _ ⟨rfl, rfl, rfl, rfl, trivial⟩)) ?_; clear f A; intro A f
        refine l_opR (R := fun v W => v = .slice (some ⟨W26.heap.size, 0, none⟩) 1 1 ∧ Below W26.heap.size W26 W ∧ W.heap[W26.heap.size]? = some (.cells #[.int .i64 lci, .int .i64 lzi, .int .i64 lti, .slice po2 pni pc2] 57 (0, 0))) f rfl rfl rfl ⟨_, _, bs_exec f rfl rfl (bs_list _ _ _ _ _), rfl, (Below.refl _ _).alloc (Nat.le_refl _) _, by show (Array.push _ _)[_]? = _; rw [Array.getElem?_push, if_pos rfl]⟩ ?_
        clear f A
        rintro _ W28 ⟨rfl, hb29, rbn⟩ A f
        replace B0 := Below.next B0 hb29; replace BQ := Below.next BQ hb29; replace hz2 := hz2.below hb29; replace rb1 := row_next rb1 hb29; replace rb4 := row_next rb4 hb29; replace rb3 := row_next rb3 hb29; replace rb21 := row_next rb21 hb29
        obtain ⟨i1, hj, hy0, hy1, hy2⟩ := info_parts info_list
        have HQw := HQ.below BQ
        have hsq := HQw.B.size
        obtain ⟨g', cap', W9, hrun, ow, hcs⟩ := append_row (P := Try.prog) W28 w.heap.size 25 25 57 i1 _ 4 Try.underlying25 hj hy0 hy1 rfl y.lo y.ln y.lc (c4 (y.ls.map Lc.q)) HQw.C.ol ⟨_, 0, none⟩ 1 1 [.int .i64 lci, .int .i64 lzi, .int .i64 lti, .slice po2 pni pc2] rfl (cells4_new rbn) (by intro u hu; simp only [List.mem_cons, List.not_mem_nil, or_false] at hu; rcases hu with rfl | rfl | rfl | rfl <;> rfl) (by omega) (by unfold maxLen; omega) (by rw [hy2]; omega) hsq
        refine l_opR (R := fun v W => v = .slice (some ⟨g', 0, none⟩) (y.ln + 1) cap' ∧ W9 = W) f rfl rfl rfl ⟨_, _, append_exec f rfl rfl rfl hrun, rfl, rfl⟩ ?_
        clear f A
        rintro _ _ ⟨rfl, rfl⟩ A f
        have hg3 : g' ≠ b3 := by rcases hcs with ⟨e, _⟩ | ⟨e, _⟩; exact (HQw.l3 _ e).1; have := HQw.lt; omega
        have hrow : ∀ {u}, W28.heap[b3]? = some u → W9.heap[b3]? = some u := by intro u h; rcases hcs with ⟨_, e⟩ | ⟨_, e⟩; exact But.row e h (Ne.symm hg3); exact row_next h e
        replace rb3 := hrow rb3
        refine l_do f rfl rfl rfl (y_field rfl rfl (fo rfl)) ?_; clear f A; intro A f
        refine l_store f rfl rfl rfl rfl rfl rb3 (sz rfl) rfl (Nat.le_of_ble_eq_true rfl) rfl ?_
        clear rb3; intro W30 hb31 rb3; dsimp only [setL, over, Value.cells] at rb3; have HQ2 := HcQ.addL (l := ⟨⟨lci, lzi, lti, lpi⟩, po2, pni, pc2⟩) HQw (by omega) BQ.size ⟨hqs.1, hqs.2.1, hqs.2.2.1, hqs.2.2.2.1, hqs.2.2.2.2⟩ hz2 hq2 ow hcs hb31 rb3
        refine wpList_nil ?_
        refine x_bn ?_
        refine x_tn ?_
        refine sx_list ?_
        refine l_do f rfl rfl rfl (y_move rfl rfl) ?_; clear f A; intro A f
        refine l_do f rfl rfl rfl (y_add rfl rfl rfl rfl (by omega)) ?_; clear f A; intro A f
        refine l_do f rfl rfl rfl (y_assign rfl rfl) ?_; clear f A; intro A f
        refine wpList_nil ?_
        refine x_tn ?_
        exact ⟨x.ln - (k + 1), by omega, k + 1, _, rfl, by omega, f.sub ⟨rfl, rfl, rfl, rfl, trivial⟩, HQ2, hyn, hyz, by show y.ln + 1 = k + 1; omega, by show (y.ls ++ [_]).map _ = _; rw [List.map_append, hyls, tk_succL x.ls k (by have := hx.lists.len; omega) hXi.out]; rfl⟩
      · clear f A; intro c20 A f
        refine wpList_nil ?_
        refine x_tn ?_
        refine x_condF f rfl ?_
        refine wp_exit ?_
        refine x_te ?_
        refine x_te ?_
        refine x_bh ?_
        refine x_tn ?_
        refine wp_seq ?_
        refine sx_list ?_
        refine l_do f rfl rfl rfl (y_loadN (vs := [_, _, _, _, _]) rfl rfl (ag rfl) rfl (rowls (rowq rb3) _ _ ⟨rfl, rfl, rfl, rfl, rfl, trivial⟩)) ?_; clear f A; intro A f
        refine l_store f rfl rfl rfl rfl rfl rb4 (sz rfl) rfl (Nat.le_of_ble_eq_true rfl) rfl ?_
        clear rb4; intro W32 hb33 rb4; dsimp only [setL, over, Value.cells] at rb4; replace B0 := Below.thenBut B0 hb33 (by omega); replace rb1 := But.row hb33 rb1 (by omega); replace rb3 := But.row hb33 rb3 (by omega); have HC9 := HQ.C.but hb33 (fun a ha => (HQ.z3 a ha).2.2) (fun a ha => (HQ.l3 a ha).2.2) HQ.a4; have he1 := HQ.e1; have he2 := HQ.e2; have he3 := HQ.e3; have ha5 := HQ.a5
        refine wpList_nil ?_
        refine x_tn ?_
        refine wp_ret ?_
        refine x_retc f rfl rfl (ag rfl) rb4 rfl ?_
        -- return 0: ¬c8@21 ¬c20@40
        exact ⟨⟨y, rfl, by show (⟨y.zs.map (·.z), y.mins, y.cpus, y.ls.map (·.l), y.live⟩ : Kit.Hp) = ⟨x.zs.map (·.z), x.mins, x.cpus, x.ls.map (·.l), x.live⟩; rw [he1, he2, he3, hyz, hyls, List.take_of_length_le (by have := hx.lists.len; omega)], HC9, ha5⟩, B0⟩


end Go.Proofs.Ytbjlbmofdnkmiaa
