/-
  OWN TEXTS, bundled: Sx, Peel.
-/
import Derived.Test.YtnijjpakpphhhaaSlabCopiesPart1
import Derived.Deep.Quiet
import Derived.Deep.QuietTactic
import Derived.OrdersHeld

/-
  OWN TEXT. A walk whose frame is a variable: what is known of its slots is a list of pairs; one law for each kind of operation; over whatever program.
-/
namespace Go.Proofs.Ytnijjpakpphhhaa.Kit
open Go Go.RowKit

def look : List (Nat × Value) → Nat → Option Value
  | [], _ => none
  | p :: r, i => bif Nat.beq p.1 i then some p.2 else look r i

/-- What is known of a frame. -/
structure Fr (A : Act) (N : Nat) (L : List (Nat × Value)) : Prop where
  size : A.tmps.size = N
  defs : A.defers = []
  at_ : ∀ i v, look L i = some v → A.tmps.getD i undef = v

theorem Fr.put {A : Act} {N : Nat} {L : List (Nat × Value)} (f : Fr A N L) (d : Nat) (v : Value) (hd : d < N) : Fr (A.put (some d) v) N ((d, v) :: L) := by
  refine ⟨by simpa [Act.put] using f.size, f.defs, fun i u h => ?_⟩
  unfold look at h
  by_cases e : d = i
  · subst e
    have : Nat.beq d d = true := Nat.beq_refl d
    simp only [this, cond_true, Option.some.injEq] at h
    subst h
    have hs := f.size
    simp [Act.put, Array.getD_eq_getD_getElem?, hs, hd]
  · have : Nat.beq d i = false := by
      cases hb : Nat.beq d i with
      | false => rfl
      | true => exact absurd (Nat.eq_of_beq_eq_true hb) e
    simp only [this, cond_false] at h
    have := f.at_ i u h
    simpa [Act.put, Array.getD_eq_getD_getElem?, Array.getElem?_setIfInBounds, e] using this

theorem Fr.put0 {A : Act} {N : Nat} {L : List (Nat × Value)} (f : Fr A N L) (v : Value) : Fr (A.put none v) N L := f

/-- An operand's value. -/
def ev (L : List (Nat × Value)) : Operand → Option Value
  | .tmp t => look L t
  | .const v => some v
  | .global g => some (.pointer (some ⟨g, 0, none⟩))
  | .func f => some (.func (.func f) #[] #[])
theorem Fr.ev {A : Act} {N : Nat} {L : List (Nat × Value)} (f : Fr A N L) {x : Operand} {v : Value} (h : ev L x = some v) : A.eval x = v := by
  cases x with
  | tmp t => exact f.at_ t v h
  | const c => exact Option.some.inj h
  | global g => exact Option.some.inj h
  | func g => exact Option.some.inj h

def looks (L : List (Nat × Value)) : List (Nat × Value) → Prop
  | [] => True
  | p :: r => look L p.1 = some p.2 ∧ looks L r
theorem looks_look {L : List (Nat × Value)} : ∀ {M : List (Nat × Value)}, looks L M → ∀ i v, look M i = some v → look L i = some v
  | [], _, i, v, h => by cases h
  | p :: r, h, i, v, g => by
    unfold look at g
    cases hb : Nat.beq p.1 i with
    | true =>
      rw [hb] at g
      have e := Nat.eq_of_beq_eq_true hb
      subst e
      cases g
      exact h.1
    | false =>
      rw [hb] at g
      exact looks_look h.2 i v g
/-- Less is known. -/
theorem Fr.sub {A : Act} {N : Nat} {L : List (Nat × Value)} (f : Fr A N L) {M : List (Nat × Value)} (h : looks L M) : Fr A N M :=
  ⟨f.size, f.defs, fun i v g => f.at_ i v (looks_look h i v g)⟩

/-- The frame at the beginning. -/
def argL (args : List Value) (k : Nat) : List (Nat × Value) :=
  match args with
  | [] => []
  | v :: r => (k, v) :: argL r (k + 1)
theorem argL_look : ∀ (args : List Value) (k i : Nat) (v : Value), look (argL args k) i = some v → ∃ j, i = k + j ∧ args[j]? = some v
  | [], _, _, _, h => by cases h
  | u :: r, k, i, v, h => by
    unfold argL look at h
    cases hb : Nat.beq k i with
    | true =>
      rw [hb] at h
      have e := Nat.eq_of_beq_eq_true hb
      exact ⟨0, by omega, by cases h; rfl⟩
    | false =>
      rw [hb] at h
      obtain ⟨j, e, g⟩ := argL_look r (k + 1) i v h
      exact ⟨j + 1, by omega, by simpa using g⟩
theorem Fr.enter (args : List Value) (N : Nat) (h : args.length ≤ N) : Fr ⟨args.toArray ++ Array.replicate (N - args.toArray.size) undef, []⟩ N (argL args 0) := by
  refine ⟨by simp; omega, rfl, fun i v g => ?_⟩
  obtain ⟨j, e, g⟩ := argL_look args 0 i v g
  have hj : j < args.length := (List.getElem?_eq_some_iff.1 g).1
  obtain rfl : i = j := by omega
  simp only [Array.getD_eq_getD_getElem?]
  rw [Array.getElem?_append_left (by simpa using hj)]
  simpa using congrArg (fun o => Option.getD o undef) g

theorem sx_enter {P : Program} {f : FuncId} {fn : Func} {c : Code} {args : List Value} {w : World} {R : Ending → World → Prop} (N : Nat)
    (hf : P.funcs[f]? = some fn) (hb : fn.body = some c) (hN : fn.ntmps = N) (hl : Nat.ble args.length N = true)
    (h : ∀ A, Fr A N (argL args 0) → c.wp P (bodyPost P fn R) A w) : Calls P f args.toArray w R :=
  calls_of_wp hf hb (by rw [hN]; exact h _ (Fr.enter args N (Nat.le_of_ble_eq_true hl)))

/-- Whether an operation is wanted. -/
def wantB (ops : List Oper) (L : List (Nat × Value)) (o : Oper) : Option Bool :=
  match o.guard with
  | none => some true
  | some (j, b) =>
    match ops[j]? with
    | none => none
    | some oj =>
      match oj.dst with
      | none => none
      | some d =>
        match look L d with
        | some (.bool c) => some (bif b then c else !c)
        | some _ => some false
        | none => none
theorem Fr.wanted {A : Act} {N : Nat} {L : List (Nat × Value)} (f : Fr A N L) {ops : List Oper} {o : Oper} {c : Bool} (h : wantB ops L o = some c) : Region.wanted o (yielded ops.toArray A.tmps) = c := by
  unfold wantB at h
  unfold Region.wanted
  cases hg : o.guard with
  | none => rw [hg] at h; simpa using h
  | some p =>
    obtain ⟨j, b⟩ := p
    rw [hg] at h
    simp only at h ⊢
    cases ho : ops[j]? with
    | none => rw [ho] at h; cases h
    | some oj =>
      rw [ho] at h
      simp only at h
      cases hd : oj.dst with
      | none => rw [hd] at h; cases h
      | some d =>
        rw [hd] at h
        simp only at h
        cases hv : look L d with
        | none => rw [hv] at h; cases h
        | some v =>
          rw [hv] at h
          have hat := f.at_ d v hv
          cases v with
          | bool q =>
            simp only [Option.some.injEq] at h
            have ht : A.tmps[d]? = some (.bool q) := by
              rw [Array.getD_eq_getD_getElem?] at hat
              cases hx : A.tmps[d]? with
              | none => rw [hx] at hat; cases hat
              | some y => rw [hx] at hat; simp only [Option.getD_some] at hat; rw [hat]
            unfold yielded
            rw [List.getElem?_toArray, ho]
            simp only [Option.bind_some, hd, ht]
            subst h
            cases b <;> cases q <;> rfl
          | _ =>
            simp only [Option.some.injEq] at h
            subst h
            unfold yielded
            rw [List.getElem?_toArray, ho]
            simp only [Option.bind_some, hd]
            rw [Array.getD_eq_getD_getElem?] at hat
            cases hx : A.tmps[d]? with
            | none => cases b <;> rfl
            | some y =>
              rw [hx] at hat
              simp only [Option.getD_some] at hat
              subst hat
              cases b <;> rfl

/-- What an operation yields, in every world of a class. -/
def YC (P : Program) (C : World → Prop) (L : List (Nat × Value)) (o : Oper) (v : Value) : Prop :=
  ∀ ρ : Operand → Value, (∀ x u, ev L x = some u → ρ x = u) → ∀ wx, C wx → (execOp ρ o).run P wx = .ok (.value v) wx
/-- A cell, in every world of a class. -/
def StC (C : World → Prop) (p : Addr) (v : Value) : Prop := ∀ wx, C wx → wx.cell? p = some v
/-- Worlds that have grown out of this one. -/
def ClB (w : World) (wx : World) : Prop := Below w.heap.size w wx
/-- A cell, in every world that has grown out of this one. -/
def St (w : World) (p : Addr) (v : Value) : Prop := ∀ wx, Below w.heap.size w wx → wx.cell? p = some v
theorem Below.next {w w' wx : World} (h : Below w.heap.size w w') (h' : Below w'.heap.size w' wx) : Below w.heap.size w wx := h.trans (h'.mono h.size)
theorem St.next {w w' : World} {p : Addr} {v : Value} (h : St w p v) (hb : Below w.heap.size w w') : St w' p v := fun wx hx => h wx (Below.next hb hx)
theorem St.of {w : World} {b o : Nat} {v : Value} (h : w.cell? ⟨b, o, none⟩ = some v) : St w ⟨b, o, none⟩ v := fun _ hx => keep h hx
theorem St.now {w : World} {p : Addr} {v : Value} (h : St w p v) : w.cell? p = some v := h w (Below.refl _ _)

section
variable {P : Program} {A : Act} {N : Nat} {L : List (Nat × Value)} {l rest : List Oper} {o : Oper} {w : World} {C : World → Prop}

/-- A region that draws its order, whose operations read, or make memory that is not looked at. -/
theorem sx_quiet {id : Nat} {Q : Exit → Act → World → Prop} (hm : P.follows .mixedOrders = true) (hB : Region.lexB .any l.toArray = true)
    (h : wpQuiet P l.toArray (ClB w) (fun a' => ∀ w', ClB w w' → Q .normal a' w') l A) : (Code.region id l.toArray true).wp P Q A w :=
  wp_region_quiet (C := ClB w) hm hB ((Below.refl w.heap.size w).drew) (by simpa using h)
theorem sx_list {id : Nat} {Q : Exit → Act → World → Prop} (h : wpList P l.toArray Q l A w) : (Code.region id l.toArray false).wp P Q A w := wp_region_lit h

theorem q_do {Q : Act → Prop} {d : Nat} {v : Value} (f : Fr A N L) (hd : o.dst = some d) (hN : Nat.blt d N = true) (hw : wantB l L o = some true) (hy : YC P C L o v)
    (h : ∀ A', Fr A' N ((d, v) :: L) → wpQuiet P l.toArray C Q rest A') : wpQuiet P l.toArray C Q (o :: rest) A := by
  unfold wpQuiet
  rw [if_pos (f.wanted hw)]
  refine ⟨v, fun wx hx => ?_, ?_⟩
  · unfold Oper.quietAt
    rw [hy A.eval (fun x u hu => f.ev hu) wx hx]
    exact ⟨rfl, rfl⟩
  · rw [hd]
    exact h _ (f.put d v (by simpa [Nat.blt_eq] using hN))
theorem q_no {Q : Act → Prop} {d : Nat} (f : Fr A N L) (hd : o.dst = some d) (hN : Nat.blt d N = true) (hw : wantB l L o = some false)
    (h : ∀ A', Fr A' N ((d, undef) :: L) → wpQuiet P l.toArray C Q rest A') : wpQuiet P l.toArray C Q (o :: rest) A := by
  unfold wpQuiet
  rw [if_neg (by rw [f.wanted hw]; exact Bool.false_ne_true), hd]
  exact h _ (f.put d undef (by simpa [Nat.blt_eq] using hN))
theorem l_do {Q : Exit → Act → World → Prop} {d : Nat} {v : Value} (f : Fr A N L) (hd : o.dst = some d) (hN : Nat.blt d N = true) (hw : wantB l L o = some true) (hy : YC P (ClB w) L o v)
    (h : ∀ A', Fr A' N ((d, v) :: L) → wpList P l.toArray Q rest A' w) : wpList P l.toArray Q (o :: rest) A w := by
  unfold wpList
  rw [if_pos (f.wanted hw)]
  left
  unfold Oper.wp
  rw [hy A.eval (fun x u hu => f.ev hu) w (Below.refl _ _), Oper.upon_value, hd]
  exact h _ (f.put d v (by simpa [Nat.blt_eq] using hN))
theorem l_no {Q : Exit → Act → World → Prop} {d : Nat} (f : Fr A N L) (hd : o.dst = some d) (hN : Nat.blt d N = true) (hw : wantB l L o = some false)
    (h : ∀ A', Fr A' N ((d, undef) :: L) → wpList P l.toArray Q rest A' w) : wpList P l.toArray Q (o :: rest) A w := by
  unfold wpList
  rw [if_neg (by rw [f.wanted hw]; exact Bool.false_ne_true), hd]
  exact h _ (f.put d undef (by simpa [Nat.blt_eq] using hN))

/-- A test whose outcome parts the walk. -/
theorem q_if {Q : Act → Prop} {d : Nat} (p : Prop) [Decidable p] (f : Fr A N L) (hd : o.dst = some d) (hN : Nat.blt d N = true) (hw : wantB l L o = some true) (hy : YC P C L o (.bool (decide p)))
    (ht : p → ∀ A', Fr A' N ((d, .bool true) :: L) → wpQuiet P l.toArray C Q rest A') (hf : ¬ p → ∀ A', Fr A' N ((d, .bool false) :: L) → wpQuiet P l.toArray C Q rest A') : wpQuiet P l.toArray C Q (o :: rest) A := by
  refine q_do f hd hN hw hy ?_
  by_cases hp : p
  · rw [decide_eq_true hp]; exact ht hp
  · rw [decide_eq_false hp]; exact hf hp
theorem l_if {Q : Exit → Act → World → Prop} {d : Nat} (p : Prop) [Decidable p] (f : Fr A N L) (hd : o.dst = some d) (hN : Nat.blt d N = true) (hw : wantB l L o = some true) (hy : YC P (ClB w) L o (.bool (decide p)))
    (ht : p → ∀ A', Fr A' N ((d, .bool true) :: L) → wpList P l.toArray Q rest A' w) (hf : ¬ p → ∀ A', Fr A' N ((d, .bool false) :: L) → wpList P l.toArray Q rest A' w) : wpList P l.toArray Q (o :: rest) A w := by
  refine l_do f hd hN hw hy ?_
  by_cases hp : p
  · rw [decide_eq_true hp]; exact ht hp
  · rw [decide_eq_false hp]; exact hf hp

/-- A function's own code, called as it is. -/
def Plain (P : Program) (g : FuncId) : Prop := ∀ args W, (callFunc g args).run P W = .ok (.enter g args) W
def evs (L : List (Nat × Value)) : List Operand → Option (List Value)
  | [] => some []
  | x :: r => match ev L x, evs L r with
    | some v, some vs => some (v :: vs)
    | _, _ => none
theorem evs_map {ρ : Operand → Value} (hρ : ∀ x u, ev L x = some u → ρ x = u) : ∀ {xs : List Operand} {vs : List Value}, evs L xs = some vs → xs.map ρ = vs
  | [], vs, h => by cases h; rfl
  | x :: r, vs, h => by
    unfold evs at h
    cases h1 : ev L x with
    | none => rw [h1] at h; cases h
    | some v =>
      cases h2 : evs L r with
      | none => rw [h1, h2] at h; cases h
      | some us =>
        rw [h1, h2] at h
        cases h
        rw [List.map_cons, hρ x v h1, evs_map hρ h2]
/-- The call that an operation is. -/
structure IsCall (L : List (Nat × Value)) (o : Oper) (g : FuncId) (args : List Value) : Prop where
  ex : ∃ x xs tys cap vs, o.op = .call ⟨.value x, xs.toArray, tys⟩ ∧ ev L x = some (.func (.func g) #[] cap) ∧ evs L xs = some vs ∧ args = vs ++ cap.toList
theorem IsCall.mk' {g : FuncId} {x : Operand} {xs : List Operand} {tys : Array TypeId} {cap : List Value} {vs : List Value} (h1 : o.op = .call ⟨.value x, xs.toArray, tys⟩) (h2 : ev L x = some (.func (.func g) #[] cap.toArray)) (h3 : evs L xs = some vs) : IsCall L o g (vs ++ cap) :=
  ⟨x, xs, tys, cap.toArray, vs, h1, h2, h3, by simp⟩
theorem IsCall.run {g : FuncId} {args : List Value} (h : IsCall L o g args) (hp : Plain P g) {ρ : Operand → Value} (hρ : ∀ x u, ev L x = some u → ρ x = u) (W : World) : (execOp ρ o).run P W = .ok (.enter g args.toArray) W := by
  obtain ⟨x, xs, tys, cap, vs, h1, h2, h3, rfl⟩ := h
  have e1 := hρ _ _ h2
  have e2 := evs_map hρ h3
  have := hp (vs ++ cap.toList).toArray W
  have e3 : vs.toArray ++ cap = (vs ++ cap.toList).toArray := by simp
  simp [execOp, h1, resolve, Deferred.ofValue, e1, e2, invoke, go_sem, e3]
  simpa using this

theorem l_call {Q : Exit → Act → World → Prop} {d : Nat} {g : FuncId} {args : List Value} {R : Ending → World → Prop} (f : Fr A N L) (hd : o.dst = some d) (hN : Nat.blt d N = true) (hw : wantB l L o = some true) (hc : IsCall L o g args) (hp : Plain P g)
    (hR : Calls P g args.toArray w R) (h : ∀ e w', R e w' → ∃ v, e = .returned v ∧ ∀ A', Fr A' N ((d, v) :: L) → wpList P l.toArray Q rest A' w') : wpList P l.toArray Q (o :: rest) A w := by
  unfold wpList
  rw [if_pos (f.wanted hw)]
  left
  unfold Oper.wp
  rw [hc.run hp (fun x u hu => f.ev hu) w, Oper.upon_enter]
  refine hR.mono fun e w' he => ?_
  obtain ⟨v, rfl, hk⟩ := h e w' he
  rw [hd]
  exact hk _ (f.put d v (by simpa [Nat.blt_eq] using hN))
theorem q_call {Q : Act → Prop} {d : Nat} {g : FuncId} {args : List Value} {v : Value} (f : Fr A N L) (hd : o.dst = some d) (hN : Nat.blt d N = true) (hw : wantB l L o = some true) (hc : IsCall L o g args) (hp : Plain P g)
    (hR : ∀ wx, C wx → Calls P g args.toArray wx fun e w' => e = .returned v ∧ C w') (h : ∀ A', Fr A' N ((d, v) :: L) → wpQuiet P l.toArray C Q rest A') : wpQuiet P l.toArray C Q (o :: rest) A := by
  unfold wpQuiet
  rw [if_pos (f.wanted hw)]
  refine ⟨v, fun wx hx => ?_, ?_⟩
  · unfold Oper.quietAt
    rw [hc.run hp (fun x u hu => f.ev hu) wx]
    refine ⟨rfl, (hR wx hx).mono ?_⟩
    rintro e w' ⟨rfl, hb⟩
    exact ⟨rfl, hb⟩
  · rw [hd]
    exact h _ (f.put d v (by simpa [Nat.blt_eq] using hN))

/-- The cells from an address on, in every world of a class. -/
def StsC (C : World → Prop) (b : Nat) : Nat → List Value → Prop
  | _, [] => True
  | o, v :: r => StC C ⟨b, o, none⟩ v ∧ StsC C b (o + 1) r
theorem StsC.at {wx : World} {b : Nat} (hb : C wx) : ∀ {l : List Value} {o : Nat}, StsC C b o l → ∀ j v, l[j]? = some v → wx.cell? ((⟨b, o, none⟩ : Addr).add j) = some v
  | [], _, _, j, v, h => by simp at h
  | u :: r, o, h, 0, v, g => by
    simp at g; subst g
    simpa [Addr.add] using h.1 wx hb
  | u :: r, o, h, j + 1, v, g => by
    have := StsC.at hb h.2 j v (by simpa using g)
    have e : (⟨b, o + 1, none⟩ : Addr).add j = (⟨b, o, none⟩ : Addr).add (j + 1) := by unfold Addr.add; split <;> simp_all <;> omega
    rw [← e]; exact this
/-- The cells from an address on. -/
def Sts (w : World) (b : Nat) : Nat → List Value → Prop
  | _, [] => True
  | o, v :: r => St w ⟨b, o, none⟩ v ∧ Sts w b (o + 1) r
theorem q_callif {Q : Act → Prop} {d : Nat} {g : FuncId} {args : List Value} (p : Prop) [Decidable p] (f : Fr A N L) (hd : o.dst = some d) (hN : Nat.blt d N = true) (hw : wantB l L o = some true) (hc : IsCall L o g args) (hp : Plain P g)
    (hR : ∀ wx, C wx → Calls P g args.toArray wx fun e w' => e = .returned (.bool (decide p)) ∧ C w')
    (ht : p → ∀ A', Fr A' N ((d, .bool true) :: L) → wpQuiet P l.toArray C Q rest A') (hf : ¬ p → ∀ A', Fr A' N ((d, .bool false) :: L) → wpQuiet P l.toArray C Q rest A') : wpQuiet P l.toArray C Q (o :: rest) A := by
  refine q_call f hd hN hw hc hp hR ?_
  by_cases hp : p
  · rw [decide_eq_true hp]; exact ht hp
  · rw [decide_eq_false hp]; exact hf hp
theorem l_callif {Q : Exit → Act → World → Prop} {d : Nat} {g : FuncId} {args : List Value} (p : Prop) [Decidable p] (f : Fr A N L) (hd : o.dst = some d) (hN : Nat.blt d N = true) (hw : wantB l L o = some true) (hc : IsCall L o g args) (hp : Plain P g)
    (hR : Calls P g args.toArray w fun e w' => e = .returned (.bool (decide p)) ∧ Below w.heap.size w w')
    (ht : p → ∀ W, Below w.heap.size w W → ∀ A', Fr A' N ((d, .bool true) :: L) → wpList P l.toArray Q rest A' W) (hf : ¬ p → ∀ W, Below w.heap.size w W → ∀ A', Fr A' N ((d, .bool false) :: L) → wpList P l.toArray Q rest A' W) : wpList P l.toArray Q (o :: rest) A w := by
  refine l_call f hd hN hw hc hp hR ?_
  rintro e W ⟨rfl, hb⟩
  refine ⟨_, rfl, ?_⟩
  by_cases hp : p
  · rw [decide_eq_true hp]; exact ht hp W hb
  · rw [decide_eq_false hp]; exact hf hp W hb

/-- In a class that has grown out of one in which a cell is as it is. -/
theorem St.q {p : Addr} {v : Value} {w0 : World} (h : St w0 p v) (hb : Below w0.heap.size w0 w) : StC (ClB w) p v := fun wx hx => h wx (Below.next hb hx)
theorem St.c {p : Addr} {v : Value} {w0 : World} (h : St w0 p v) (hb : ∀ wx, C wx → Below w0.heap.size w0 wx) : StC C p v := fun wx hx => h wx (hb wx hx)
theorem c_cl {g : FuncId} {args : Array Value} {v : Value} (h : ∀ wx, Calls P g args wx fun e w' => e = .returned v ∧ Below wx.heap.size wx w') : ∀ wx, ClB w wx → Calls P g args wx fun e w' => e = .returned v ∧ ClB w w' := fun wx hx => (h wx).mono fun _ _ ⟨a, b⟩ => ⟨a, Below.next hx b⟩
theorem c_clb {g : FuncId} {args : Array Value} {v : Value} (h : ∀ wx, Below w.heap.size w wx → Calls P g args wx fun e w' => e = .returned v ∧ Below wx.heap.size wx w') : ∀ wx, ClB w wx → Calls P g args wx fun e w' => e = .returned v ∧ ClB w w' := fun wx hx => (h wx hx).mono fun _ _ ⟨a, b⟩ => ⟨a, Below.next hx b⟩

theorem run_under {t : TypeId} {d : TypeDesc} (h : P.underlying t = some d) (w : World) : (underlying t).run P w = .ok d w := by
  unfold underlying
  simp [go_sem, h]
theorem run_size {t : TypeId} {i : TypeInfo} (h : P.info? t = some i) (w : World) : (sizeOf t).run P w = .ok i.size w := by
  unfold sizeOf typeInfo
  simp [go_sem, h]
/-! Operations that make memory. -/
theorem row_st {W : World} {b : Nat} {cs : Array Value} {t : TypeId} (h : W.heap[b]? = some (.cells cs t (0, 0))) : ∀ (l : List Value) (o : Nat), (∀ j, l[j]? = cs[o + j]?) → Sts W b o l
  | [], _, _ => trivial
  | v :: r, o, g => by
    refine ⟨?_, row_st h r (o + 1) fun j => ?_⟩
    · have h0 := g 0
      simp only [List.getElem?_cons_zero, Nat.add_zero] at h0
      exact St.of (by simp [World.cell?, h, ← h0])
    · have := g (j + 1)
      simp only [List.getElem?_cons_succ] at this
      rw [this]; congr 1; omega
theorem sts_row {W : World} {b : Nat} {cs : List Value} {t : TypeId} (h : W.heap[b]? = some (.cells cs.toArray t (0, 0))) : Sts W b 0 cs := row_st h cs 0 (fun j => by simp)
theorem row_next {W W' : World} {b : Nat} {x : Obj} (h : W.heap[b]? = some x) (hb : Below W.heap.size W W') : W'.heap[b]? = some x := by
  rw [hb.block b (Array.getElem?_eq_some_iff.1 h).1]; exact h

theorem l_new {Q : Exit → Act → World → Prop} {d : Nat} {t : TypeId} {cs : Array Value} (f : Fr A N L) (hd : o.dst = some d) (hN : Nat.blt d N = true) (hw : wantB l L o = some true)
    (hr : ∀ ρ : Operand → Value, (∀ x u, ev L x = some u → ρ x = u) → (execOp ρ o).run P w = .ok (.value (.pointer (some ⟨w.heap.size, 0, none⟩))) (w.alloc (.cells cs t)))
    (h : ∀ b W, w.heap.size = b → Below w.heap.size w W → W.heap[b]? = some (.cells cs t (0, 0)) → ∀ A', Fr A' N ((d, .pointer (some ⟨b, 0, none⟩)) :: L) → wpList P l.toArray Q rest A' W) : wpList P l.toArray Q (o :: rest) A w := by
  unfold wpList
  rw [if_pos (f.wanted hw)]
  left
  unfold Oper.wp
  rw [hr A.eval (fun x u hu => f.ev hu), Oper.upon_value, hd]
  exact h _ _ rfl ((Below.refl w.heap.size w).alloc (Nat.le_refl _) _) (by show (w.heap.push _)[w.heap.size]? = _; rw [Array.getElem?_push, if_pos rfl]) _ (f.put d _ (by simpa [Nat.blt_eq] using hN))
theorem l_box {Q : Exit → Act → World → Prop} {d : Nat} {t : TypeId} {x : Operand} {v : Value} (f : Fr A N L) (hd : o.dst = some d) (hN : Nat.blt d N = true) (hw : wantB l L o = some true) (ho : o.op = .box t x) (hx : ev L x = some v)
    (h : ∀ b W, w.heap.size = b → Below w.heap.size w W → W.heap[b]? = some (.cells v.cells t (0, 0)) → ∀ A', Fr A' N ((d, .pointer (some ⟨b, 0, none⟩)) :: L) → wpList P l.toArray Q rest A' W) : wpList P l.toArray Q (o :: rest) A w := by
  refine l_new f hd hN hw (fun ρ hρ => ?_) h
  simp [execOp, ho, hρ _ _ hx, Instr.box, newVar, newRow, go_sem]
theorem l_alloc {Q : Exit → Act → World → Prop} {d : Nat} {t : TypeId} {z : Value} (f : Fr A N L) (hd : o.dst = some d) (hN : Nat.blt d N = true) (hw : wantB l L o = some true) (ho : o.op = .alloc t) (hz : (P.info? t).map (·.zero) = some (some z))
    (h : ∀ b W, w.heap.size = b → Below w.heap.size w W → W.heap[b]? = some (.cells z.cells t (0, 0)) → ∀ A', Fr A' N ((d, .pointer (some ⟨b, 0, none⟩)) :: L) → wpList P l.toArray Q rest A' W) : wpList P l.toArray Q (o :: rest) A w := by
  refine l_new f hd hN hw (fun ρ hρ => ?_) h
  simp only [Option.map_eq_some_iff] at hz
  obtain ⟨inf, hi, he⟩ := hz
  have hzv : (zeroValue t).run P w = .ok z w := by
    unfold zeroValue typeInfo
    simp [go_sem, hi, he]
  simp [execOp, ho, Instr.alloc, newVar, newRow, go_sem, hzv]

theorem run_storeVar' {t : TypeId} {i : TypeInfo} {a : Addr} {v : Value} {W W' : World} (hi : P.info? t = some i) (hv : v.cells.size = i.size) (hr : (storeCells a v.cells.toList 0).run P W = .ok () W') : (storeVar t a v).run P W = .ok () W' := by
  unfold storeVar
  generalize v.cells = cs at *
  simp [run_size hi, hv, hr, go_sem]
/-- A new variable and what it gets. -/
theorem l_as {Q : Exit → Act → World → Prop} {d : Nat} {t : TypeId} {x : Operand} {v z : Value} {o' : Oper} (f : Fr A N L) (hd : o.dst = some d) (hN : Nat.blt d N = true) (hw : wantB l L o = some true) (ho : o.op = .alloc t) (hz : (P.info? t).map (fun i => (i.zero, i.size)) = some (some z, z.cells.size))
    (hd' : o'.dst = none) (ho' : o'.op = .store t (.tmp d) x)
    (hx' : ∀ u, ev ((d, u) :: L) x = some v) (hw'' : ∀ u, wantB l ((d, .pointer u) :: L) o' = some true) (hv : v.cells.size = z.cells.size) (h1 : ∀ u ∈ v.cells.toList, u.oneCell' = true)
    (h : ∀ b W, w.heap.size = b → Below w.heap.size w W → W.heap[b]? = some (.cells v.cells t (0, 0)) → ∀ A', Fr A' N ((d, .pointer (some ⟨b, 0, none⟩)) :: L) → wpList P l.toArray Q rest A' W) : wpList P l.toArray Q (o :: o' :: rest) A w := by
  have hz1 : (P.info? t).map (·.zero) = some (some z) := by
    simp only [Option.map_eq_some_iff, Prod.mk.injEq] at hz ⊢
    obtain ⟨i, hi, h1, _⟩ := hz
    exact ⟨i, hi, h1⟩
  obtain ⟨i, hi, he⟩ : ∃ i, P.info? t = some i ∧ i.size = z.cells.size := by
    simp only [Option.map_eq_some_iff, Prod.mk.injEq] at hz
    obtain ⟨i, hi, _, h2⟩ := hz
    exact ⟨i, hi, h2⟩
  refine l_alloc f hd hN hw ho hz1 ?_
  intro b W hb hB hR A' f'
  unfold wpList
  rw [if_pos (f'.wanted (hw'' _))]
  left
  have e1 : A'.eval (.tmp d) = .pointer (some ⟨b, 0, none⟩) := f'.ev (by simp [ev, look])
  have e2 : A'.eval x = v := f'.ev (hx' _)
  have hrun := run_storeCells_from (P := P) b t v.cells.toList 0 z.cells W hR (by simp; omega) h1
  unfold Oper.wp
  have hr : (execOp A'.eval o').run P W = .ok .skip (W.setRow b v.cells) := by
    have hrun' : (storeCells ⟨b, 0, none⟩ v.cells.toList 0).run P W = .ok () (W.setRow b v.cells) := by simpa using hrun
    obtain ⟨ρ, hρ⟩ : ∃ ρ, A'.eval = ρ := ⟨_, rfl⟩
    rw [hρ] at e1 e2 ⊢
    have hsv := run_storeVar' (a := ⟨b, 0, none⟩) hi (hv.trans he.symm) hrun'
    obtain ⟨s, hs⟩ : ∃ s, storeVar t ⟨b, 0, none⟩ v = s := ⟨_, rfl⟩
    rw [hs] at hsv
    unfold execOp
    rw [ho']
    simp only
    unfold Instr.storeAt
    rw [e1, e2]
    show (do storeVar t ⟨b, 0, none⟩ v; pure Next.skip : Sem Next).run P W = _
    rw [hs]
    simp [hsv, go_sem]
  rw [hr, Oper.upon_skip, hd']
  have hrow : (W.setRow b v.cells).heap[b]? = some (.cells v.cells t (0, 0)) := by
    simp [World.setRow, Array.getElem?_modify, hR]
  exact h b _ hb (below_setRow hB (by omega) _) hrow _ f'

/-! The operations. -/
def evp (L : List (Nat × Value)) : List (Nat × Operand) → Option (List (Nat × Value))
  | [] => some []
  | p :: r => match ev L p.2, evp L r with
    | some v, some vs => some ((p.1, v) :: vs)
    | _, _ => none
theorem evp_map {ρ : Operand → Value} (hρ : ∀ x u, ev L x = some u → ρ x = u) : ∀ {xs : List (Nat × Operand)} {vs : List (Nat × Value)}, evp L xs = some vs → xs.map (fun p => (p.1, ρ p.2)) = vs
  | [], vs, h => by cases h; rfl
  | x :: r, vs, h => by
    unfold evp at h
    cases h1 : ev L x.2 with
    | none => rw [h1] at h; cases h
    | some v =>
      cases h2 : evp L r with
      | none => rw [h1, h2] at h; cases h
      | some us =>
        rw [h1, h2] at h
        cases h
        rw [List.map_cons, hρ x.2 v h1, evp_map hρ h2]
theorem y_build {t : TypeId} {ps : List (Nat × Operand)} {vs : List (Nat × Value)} (cells : Array Value) (ho : o.op = .build t ps.toArray) (hp : evp L ps = some vs) (hb : P.built t vs = some cells) : YC P C L o (.agg cells) := by
  intro ρ hρ wx _
  have e := evp_map hρ hp
  have hr := run_build (P := P) wx t vs.toArray cells (by simpa using hb)
  obtain ⟨s, hs⟩ : ∃ s, Instr.build t vs.toArray = s := ⟨_, rfl⟩
  rw [hs] at hr
  have e' : ps.toArray.map (fun (i, x) => (i, ρ x)) = vs.toArray := by simpa using congrArg List.toArray e
  unfold execOp
  rw [ho]
  simp only
  rw [e', hs]
  simp [hr, go_sem]
theorem y_func {fn : Fn} {xs : List Operand} {vs : List Value} (ho : o.op = .makeFunc fn #[] xs.toArray) (hx : evs L xs = some vs) : YC P C L o (.func fn #[] vs.toArray) := by
  intro ρ hρ wx _
  have e := evs_map hρ hx
  simp [execOp, ho, Instr.makeFunc, e, go_sem]
theorem y_move {x : Operand} {v : Value} (ho : o.op = .move x) (hx : ev L x = some v) : YC P C L o v := by
  intro ρ hρ wx _
  simp [execOp, ho, hρ _ _ hx, go_sem]
theorem y_assign {x : Operand} {v : Value} (ho : o.op = .assign x) (hx : ev L x = some v) : YC P C L o v := by
  intro ρ hρ wx _
  simp [execOp, ho, hρ _ _ hx, go_sem]
theorem y_pick {c a b : Operand} {t : Bool} {v : Value} (ho : o.op = .pick c a b) (hc : ev L c = some (.bool t)) (hv : (bif t then ev L a else ev L b) = some v) : YC P C L o v := by
  intro ρ hρ wx _
  cases t
  · simp [execOp, ho, hρ _ _ hc, hρ _ _ hv, asBool, go_sem]
  · simp [execOp, ho, hρ _ _ hc, hρ _ _ hv, asBool, go_sem]
theorem y_not {x : Operand} {t : TypeId} {b : Bool} (ho : o.op = .unOp .not t x) (hx : ev L x = some (.bool b)) : YC P C L o (.bool (!b)) := by
  intro ρ hρ wx _
  simp [execOp, ho, hρ _ _ hx, Op.unary, go_sem]
def isSl (P : Program) (t : TypeId) : Bool :=
  match P.underlying t with
  | some (.slice _) => true
  | _ => false
theorem y_len {x : Operand} {p : Option Addr} {n c : Nat} {t : TypeId} (ho : o.op = .call ⟨.builtin .len, #[x], #[t]⟩) (hx : ev L x = some (.slice p n c)) (ht : isSl P t = true) : YC P C L o (.int .i64 n) := by
  intro ρ hρ wx _
  unfold isSl at ht
  cases hu : P.underlying t with
  | none => rw [hu] at ht; cases ht
  | some d =>
    rw [hu] at ht
    cases d with
    | slice e => simp [execOp, ho, hρ _ _ hx, resolve, Builtin.len_, run_under hu, goInt, go_sem]
    | _ => cases ht

/-- Where a field lies in its struct; none: it has no cells. -/
def fOff (P : Program) (s : TypeId) (i : Nat) : Option Nat :=
  match P.underlying s with
  | some (.struct fields) => match fields[i]? with
    | some fd => match P.info? fd.type with
      | some inf => if inf.size = 0 then none else some fd.offset
      | none => none
    | none => none
  | _ => none
theorem y_field {s : TypeId} {x : Operand} {i k b off : Nat} (ho : o.op = .fieldAddr s x i) (hx : ev L x = some (.pointer (some ⟨b, off, none⟩))) (hk : fOff P s i = some k) : YC P C L o (.pointer (some ⟨b, off + k, none⟩)) := by
  intro ρ hρ wx _
  unfold fOff at hk
  cases hu : P.underlying s with
  | none => rw [hu] at hk; cases hk
  | some d =>
    rw [hu] at hk
    cases d with
    | struct fields =>
      simp only at hk
      cases hf : fields[i]? with
      | none => rw [hf] at hk; cases hk
      | some fd =>
        rw [hf] at hk
        simp only at hk
        cases hi : P.info? fd.type with
        | none => rw [hi] at hk; cases hk
        | some inf =>
          rw [hi] at hk
          simp only at hk
          by_cases hz : inf.size = 0
          · rw [if_pos hz] at hk; cases hk
          · rw [if_neg hz] at hk
            cases hk
            simp [execOp, ho, hρ _ _ hx, Instr.fieldAt, Instr.sureAddr, fieldPlace, run_under hu, hf, run_size hi, hz, go_sem]
    | _ => cases hk
/-- The cells of an element of a slice. -/
def elSz (P : Program) (t : TypeId) : Option Nat :=
  match P.underlying t with
  | some (.slice e) => (P.info? e).map (·.size)
  | _ => none
theorem y_index {t : TypeId} {x ix : Operand} {k s b off n c : Nat} {p : Option Addr} (ho : o.op = .indexAddr t x ix) (hx : ev L x = some (.slice p n c)) (hp : p = some ⟨b, off, none⟩) (hi : ev L ix = some (.int .i64 k)) (hs : elSz P t = some s) (hk : k < n) : YC P C L o (.pointer (some ⟨b, off + k * s, none⟩)) := by
  subst hp
  intro ρ hρ wx _
  unfold elSz at hs
  cases hu : P.underlying t with
  | none => rw [hu] at hs; cases hs
  | some d =>
    rw [hu] at hs
    cases d with
    | slice e =>
      simp only at hs
      cases hif : P.info? e with
      | none => rw [hif] at hs; cases hs
      | some inf =>
        rw [hif] at hs
        simp only [Option.map_some, Option.some.injEq] at hs
        subst hs
        simp [execOp, ho, hρ _ _ hx, hρ _ _ hi, Instr.indexAt, asIntOf, run_under hu, run_size hif, hk, go_sem]
    | _ => cases hs
theorem y_indexI {t : TypeId} {x ix : Operand} {j : Int} {s b off n c : Nat} {p : Option Addr} (ho : o.op = .indexAddr t x ix) (hx : ev L x = some (.slice p n c)) (hp : p = some ⟨b, off, none⟩) (hi : ev L ix = some (.int .i64 j)) (hs : elSz P t = some s) (h0 : 0 ≤ j) (hk : j < n) : YC P C L o (.pointer (some ⟨b, off + j.toNat * s, none⟩)) :=
  y_index (k := j.toNat) ho hx hp (by rw [hi]; congr 2; omega) hs (by omega)
def isAggB (P : Program) (t : TypeId) : Option (Option Nat) :=
  match P.underlying t with
  | some (.struct _) | some (.array _ _) => (P.info? t).map (fun i => some i.size)
  | some _ => some none
  | none => none
theorem y_load1 {t : TypeId} {x : Operand} {p : Addr} {v : Value} (ho : o.op = .load t x) (hx : ev L x = some (.pointer (some p))) (ht : isAggB P t = some none) (hc : StC C p v) : YC P C L o v := by
  intro ρ hρ wx hb
  have hcx := hc wx hb
  unfold isAggB at ht
  cases hu : P.underlying t with
  | none => rw [hu] at ht; cases ht
  | some d =>
    rw [hu] at ht
    cases d <;> first
      | (simp [execOp, ho, hρ _ _ hx, Instr.loadAt, Instr.sureAddr, loadVar, isAgg, run_under hu, hcx, go_sem]; done)
      | (simp at ht; done)
      | (cases h : P.info? t <;> simp [h] at ht)
theorem y_loadN {t : TypeId} {x : Operand} {b off n : Nat} {vs : List Value} (ho : o.op = .load t x) (hx : ev L x = some (.pointer (some ⟨b, off, none⟩))) (ht : isAggB P t = some (some n)) (hn : vs.length = n) (hc : StsC C b off vs) : YC P C L o (.agg vs.toArray) := by
  intro ρ hρ wx hb
  have hcx := run_loadCells_list (P := P) (w := wx) ⟨b, off, none⟩ vs (hc.at hb)
  rw [hn] at hcx
  unfold loadCells at hcx
  unfold isAggB at ht
  cases hu : P.underlying t with
  | none => rw [hu] at ht; cases ht
  | some d =>
    rw [hu] at ht
    cases d with
    | struct fs =>
      simp only [Option.map_eq_some_iff, Option.some.injEq] at ht
      obtain ⟨inf, hi, e⟩ := ht
      subst e
      simp [execOp, ho, hρ _ _ hx, Instr.loadAt, Instr.sureAddr, loadVar, isAgg, run_under hu, run_size hi, hcx, go_sem]
    | array m e =>
      simp only [Option.map_eq_some_iff, Option.some.injEq] at ht
      obtain ⟨inf, hi, e⟩ := ht
      subst e
      simp [execOp, ho, hρ _ _ hx, Instr.loadAt, Instr.sureAddr, loadVar, isAgg, run_under hu, run_size hi, hcx, go_sem]
    | _ => simp at ht

section ints
variable {t u : TypeId} {x y : Operand} {k : IntKind} {a b : Int}
theorem y_lss (ho : o.op = .binOp .lss t x y u) (hx : ev L x = some (.int k a)) (hy : ev L y = some (.int k b)) : YC P C L o (.bool (decide (a < b))) := by
  intro ρ hρ wx _
  simp [execOp, ho, hρ _ _ hx, hρ _ _ hy, eqGuard, binOp, Op.intCmp, go_sem]
theorem y_leq (ho : o.op = .binOp .leq t x y u) (hx : ev L x = some (.int k a)) (hy : ev L y = some (.int k b)) : YC P C L o (.bool (decide (a ≤ b))) := by
  intro ρ hρ wx _
  simp [execOp, ho, hρ _ _ hx, hρ _ _ hy, eqGuard, binOp, Op.intCmp, go_sem]
theorem y_gtr (ho : o.op = .binOp .gtr t x y u) (hx : ev L x = some (.int k a)) (hy : ev L y = some (.int k b)) : YC P C L o (.bool (decide (b < a))) := by
  intro ρ hρ wx _
  simp [execOp, ho, hρ _ _ hx, hρ _ _ hy, eqGuard, binOp, Op.intCmp, go_sem]
theorem y_geq (ho : o.op = .binOp .geq t x y u) (hx : ev L x = some (.int k a)) (hy : ev L y = some (.int k b)) : YC P C L o (.bool (decide (b ≤ a))) := by
  intro ρ hρ wx _
  simp [execOp, ho, hρ _ _ hx, hρ _ _ hy, eqGuard, binOp, Op.intCmp, go_sem]
theorem y_eql (ho : o.op = .binOp .eql t x y u) (hx : ev L x = some (.int k a)) (hy : ev L y = some (.int k b)) : YC P C L o (.bool (decide (a = b))) := by
  intro ρ hρ wx _
  have e : (a == b) = decide (a = b) := by cases h : a == b <;> simp_all
  simp [execOp, ho, hρ _ _ hx, hρ _ _ hy, eqGuard, binOp, Op.intCmp, go_sem, e]
theorem y_neq (ho : o.op = .binOp .neq t x y u) (hx : ev L x = some (.int k a)) (hy : ev L y = some (.int k b)) : YC P C L o (.bool (decide (a ≠ b))) := by
  intro ρ hρ wx _
  have e : (a != b) = decide (a ≠ b) := by cases h : a != b <;> simp_all
  simp [execOp, ho, hρ _ _ hx, hρ _ _ hy, eqGuard, binOp, Op.intCmp, go_sem, e]
theorem y_add {c : Int} (ho : o.op = .binOp .add t x y u) (hx : ev L x = some (.int .i64 a)) (hy : ev L y = some (.int .i64 b)) (hc : a + b = c) (h : -9223372036854775808 ≤ c ∧ c ≤ 9223372036854775807) : YC P C L o (.int .i64 c) := by
  intro ρ hρ wx _
  have e := IntWalk.i64_in (a + b) (by omega)
  simp [execOp, ho, hρ _ _ hx, hρ _ _ hy, binOp, Op.intArith, go_sem, e]
  exact hc
theorem y_sub {c : Int} (ho : o.op = .binOp .sub t x y u) (hx : ev L x = some (.int .i64 a)) (hy : ev L y = some (.int .i64 b)) (hc : a - b = c) (h : -9223372036854775808 ≤ c ∧ c ≤ 9223372036854775807) : YC P C L o (.int .i64 c) := by
  intro ρ hρ wx _
  have e := IntWalk.i64_in (a - b) (by omega)
  simp [execOp, ho, hρ _ _ hx, hρ _ _ hy, binOp, Op.intArith, go_sem, e]
  exact hc
theorem y_mul {c : Int} (ho : o.op = .binOp .mul t x y u) (hx : ev L x = some (.int .i64 a)) (hy : ev L y = some (.int .i64 b)) (hc : a * b = c) (h : -9223372036854775808 ≤ c ∧ c ≤ 9223372036854775807) : YC P C L o (.int .i64 c) := by
  intro ρ hρ wx _
  have e := IntWalk.i64_in (a * b) (by omega)
  simp [execOp, ho, hρ _ _ hx, hρ _ _ hy, binOp, Op.intArith, go_sem, e]
  exact hc
theorem y_rem {c : Int} (ho : o.op = .binOp .rem t x y u) (hx : ev L x = some (.int .i64 a)) (hy : ev L y = some (.int .i64 b)) (h : b ≠ 0) (hc : a.tmod b = c) : YC P C L o (.int .i64 c) := by
  intro ρ hρ wx _
  simp [execOp, ho, hρ _ _ hx, hρ _ _ hy, binOp, Op.intDiv, go_sem, h]
  exact hc
theorem y_quo {c : Int} (ho : o.op = .binOp .quo t x y u) (hx : ev L x = some (.int .i64 a)) (hy : ev L y = some (.int .i64 b)) (h : b ≠ 0) (hc : a.tdiv b = c) (hr : -9223372036854775808 ≤ c ∧ c ≤ 9223372036854775807) : YC P C L o (.int .i64 c) := by
  intro ρ hρ wx _
  have e := IntWalk.i64_in (a.tdiv b) (by omega)
  simp [execOp, ho, hρ _ _ hx, hρ _ _ hy, binOp, Op.intDiv, go_sem, h, e]
  exact hc
end ints

def lookN : List (Nat × Nat) → Nat → Option Nat
  | [], _ => none
  | p :: r, i => bif Nat.beq p.1 i then some p.2 else lookN r i
theorem lookN_mem : ∀ {T : List (Nat × Nat)} {i k : Nat}, lookN T i = some k → (i, k) ∈ T
  | [], _, _, h => by cases h
  | p :: r, i, k, h => by
    unfold lookN at h
    cases hb : Nat.beq p.1 i with
    | true =>
      rw [hb] at h
      have e := Nat.eq_of_beq_eq_true hb
      cases h
      subst e
      exact List.mem_cons_self
    | false =>
      rw [hb] at h
      exact List.mem_cons_of_mem _ (lookN_mem h)
def memN : List Nat → Nat → Bool
  | [], _ => false
  | p :: r, i => bif Nat.beq p i then true else memN r i
theorem memN_mem : ∀ {T : List Nat} {i : Nat}, memN T i = true → i ∈ T
  | [], _, h => by cases h
  | p :: r, i, h => by
    unfold memN at h
    cases hb : Nat.beq p i with
    | true =>
      have e := Nat.eq_of_beq_eq_true hb
      subst e
      exact List.mem_cons_self
    | false =>
      rw [hb] at h
      exact List.mem_cons_of_mem _ (memN_mem h)
def plainB (P : Program) (g : Nat) : Bool :=
  match P.funcs[g]? with
  | some fn => !(fn.name == "runtime.NumGoroutine") && fn.body.isSome
  | none => false
theorem Plain.of {g : Nat} (h : plainB P g = true) : Plain P g := by
  intro args W
  unfold plainB at h
  cases hf : P.funcs[g]? with
  | none => rw [hf] at h; cases h
  | some fn =>
    rw [hf] at h
    simp only [Bool.and_eq_true, Bool.not_eq_true'] at h
    obtain ⟨h1, h2⟩ := h
    obtain ⟨c, hc⟩ : ∃ c, fn.body = some c := Option.isSome_iff_exists.1 h2
    have h1' : ¬ fn.name = "runtime.NumGoroutine" := by simpa using h1
    unfold callFunc
    simp [go_sem, hf, h1', hc]

/-- A loop by a relation with a number that falls. -/
theorem x_loop {c : Code} {Q : Exit → Act → World → Prop} (I : Nat → Act → World → Prop) {n0 : Nat} (h0 : I n0 A w)
    (round : ∀ n A w, I n A w → c.wp P (Exit.then (fun a' w' => ∃ m, m < n ∧ I m a' w') Q) A w) : (Code.loop c).wp P Q A w := by
  intro b k cs
  have key : ∀ n A w, I n A w →
      ∃ e a' w', Q e a' w' ∧ Arrives P (lone (b.at A (.code c :: .inLoop c :: k)) cs w) b k cs e a' w' := by
    intro n
    induction n using Nat.strongRecOn with
    | _ n ih =>
      intro A w hI
      obtain ⟨e, a1, w1, hq, harr⟩ := round n A w hI b (.inLoop c :: k) cs
      cases e with
      | normal =>
        obtain ⟨m, hlt, hI1⟩ := hq
        obtain ⟨e2, a2, w2, hq2, harr2⟩ := ih m hlt a1 w1 hI1
        exact ⟨e2, a2, w2, hq2, .of_steps (Steps.trans harr (.one step_inLoop)) harr2⟩
      | exit id => exact ⟨_, a1, w1, hq, .pass (x := .inLoop c) rfl (fun _ _ => .inl (by simp)) harr⟩
      | goto l => exact ⟨_, a1, w1, hq, .pass (x := .inLoop c) rfl (fun _ _ => .inl (by simp)) harr⟩
      | ret => exact ⟨_, a1, w1, hq, .pass (x := .inLoop c) rfl (fun _ _ => .inl (by simp)) harr⟩
      | panic ch => exact ⟨_, a1, w1, hq, .pass (x := .inLoop c) rfl (fun _ _ => .inl (by simp)) harr⟩
      | outgrown => exact ⟨_, a1, w1, hq, .pass (x := .inLoop c) rfl (fun _ _ => .inl (by simp)) harr⟩
  obtain ⟨e, a', w', hq, harr⟩ := key _ A w h0
  exact ⟨e, a', w', hq, .of_steps (.one step_loop) harr⟩

/-! What stands behind. -/
section exits
variable {Q : Exit → Act → World → Prop} {K : Act → World → Prop} {i j : Nat}
theorem x_tn (h : K A w) : Exit.then K Q .normal A w := h
theorem x_te (h : Q (.exit i) A w) : Exit.then K Q (.exit i) A w := h
theorem x_tr (h : Q .ret A w) : Exit.then K Q .ret A w := h
theorem x_bn (h : Q .normal A w) : Exit.inBlock i Q .normal A w := h
theorem x_bh (h : Q .normal A w) : Exit.inBlock i Q (.exit i) A w := by simpa [Exit.inBlock] using h
theorem x_be (e : Nat.beq j i = false) (h : Q (.exit j) A w) : Exit.inBlock i Q (.exit j) A w := by
  have : j ≠ i := fun g => by subst g; rw [Nat.beq_refl] at e; cases e
  simpa [Exit.inBlock, this] using h
theorem x_br (h : Q .ret A w) : Exit.inBlock i Q .ret A w := h
theorem x_cond {c : Operand} {x y : Code} {b : Bool} (f : Fr A N L) (hc : ev L c = some (.bool b)) (h : (bif b then x else y).wp P Q A w) : (Code.cond c x y).wp P Q A w := by
  refine wp_cond (f.ev hc) ?_
  cases b <;> exact h
theorem x_condT {c : Operand} {x y : Code} (f : Fr A N L) (hc : ev L c = some (.bool true)) (h : x.wp P Q A w) : (Code.cond c x y).wp P Q A w := wp_cond_true (f.ev hc) h
theorem x_condF {c : Operand} {x y : Code} (f : Fr A N L) (hc : ev L c = some (.bool false)) (h : y.wp P Q A w) : (Code.cond c x y).wp P Q A w := wp_cond_false (f.ev hc) h
theorem x_ret1 {fn : Func} {R : Ending → World → Prop} {t : Tmp} {v : Value} (f : Fr A N L) (hr : fn.results = #[.tmp t]) (hv : look L t = some v) (h : R (.returned v) w) : bodyPost P fn R .ret A w := by
  refine ⟨f.defs, v, ?_, h⟩
  rw [results_tmp hr, f.at_ t v hv]
theorem x_ret2 {fn : Func} {R : Ending → World → Prop} {t u : Tmp} {v v' : Value} (f : Fr A N L) (hr : fn.results = #[.tmp t, .tmp u]) (hv : look L t = some v) (hv' : look L u = some v') (h : R (.returned (.tuple #[v, v'])) w) : bodyPost P fn R .ret A w := by
  refine ⟨f.defs, _, ?_, h⟩
  rw [results_tmp2 hr, f.at_ t v hv, f.at_ u v' hv']
end exits

end
end Go.Proofs.Ytnijjpakpphhhaa.Kit

/-
  OWN TEXT. A region that draws its order and whose last operation waits for all others: the others in whatever order, then the last one; over whatever program.
-/
namespace Go.Proofs.Ytnijjpakpphhhaa.Kit
open Go Go.RowKit

/-- What is to hold ahead of the last operation. -/
def lastQ (P : Program) (o : Oper) (Q : Exit → Act → World → Prop) : Exit → Act → World → Prop
  | .normal, a, w => o.wp P a w (fun a' w' => Q .normal a' w') Q
  | .exit id, a, w => Q (.exit id) a w
  | .goto l, a, w => Q (.goto l) a w
  | .ret, a, w => Q .ret a w
  | .panic c, a, w => Q (.panic c) a w
  | .outgrown, a, w => Q .outgrown a w

theorem upon_last {P : Program} {o' o : Oper} {a : Act} {K : Act → World → Prop} {Q : Exit → Act → World → Prop} {r : Result Next} (h : o'.upon P a K (lastQ P o Q) r) : o'.upon P a K Q r := by
  cases r with
  | ok n w' =>
    cases n with
    | value v => exact h
    | skip => exact h
    | defer d => exact h
    | enter f args =>
      refine Calls.mono h ?_
      intro e w'' he
      cases e with
      | returned v => exact he
      | panicked c => exact he
      | outgrown => exact he
    | row r args => exact h
    | _ => exact h
  | halt k w' =>
    cases k with
    | panic v => exact h
    | _ => exact h

theorem mem_ready {md : Region.Mode} {ops : Array Oper} {l : Array Bool} {i : Nat} : i ∈ Region.ready md ops l ↔ ∃ oi, ops[i]? = some oi ∧ l.getD i true = false ∧ ∀ e ∈ oi.after, Region.binds md e = true → l.getD e.on false = true := by
  unfold Region.ready
  rw [List.mem_filter, List.mem_range]
  constructor
  · rintro ⟨hi, h⟩
    rw [Array.getElem?_eq_getElem hi] at h ⊢
    simp only [Bool.and_eq_true, Bool.not_eq_true', Option.map_some, Option.getD_some] at h
    refine ⟨_, rfl, h.1, fun e he hb => ?_⟩
    have := (Array.all_eq_true'.1 h.2) e he
    simpa [hb] using this
  · rintro ⟨oi, h1, h2, h3⟩
    have hi := (Array.getElem?_eq_some_iff.1 h1).1
    refine ⟨hi, ?_⟩
    rw [h1, h2]
    simp only [Bool.not_false, Bool.true_and, Option.map_some, Option.getD_some]
    refine Array.all_eq_true'.2 fun e he => ?_
    cases hb : Region.binds md e with
    | false => rfl
    | true => simpa [hb] using h3 e he hb

/-- Every operation but the last one waits for earlier ones alone, the last one for all; no guards. -/
def peelB (md : Region.Mode) (L : List Oper) (n : Nat) : Bool :=
  (L.length == n + 1) && ((List.range n).all fun i => ((L[i]?).map fun o => o.guard.isNone && o.after.all fun e => !Region.binds md e || decide (e.on < i)).getD false) &&
    (((L[n]?).map fun o => o.guard.isNone && (o.after.all fun e => !Region.binds md e || decide (e.on < n)) && (List.range n).all fun i => (o.after.any fun e => Region.binds md e && e.on == i) || ((List.range n).any fun j => decide (i < j) && ((L[j]?).map fun oj => oj.after.any fun e => Region.binds md e && e.on == i).getD false)).getD false)

section
variable {P : Program} {md : Region.Mode} {L : List Oper} {n : Nat} {o : Oper} {Q : Exit → Act → World → Prop}
theorem peel_spec (h : peelB md L n = true) : L.length = n + 1 ∧ (∀ i oi, i < n → L[i]? = some oi → oi.guard = none ∧ ∀ e ∈ oi.after, Region.binds md e = true → e.on < i) ∧ (∀ o, L[n]? = some o → o.guard = none ∧ (∀ e ∈ o.after, Region.binds md e = true → e.on < n) ∧ ∀ i, i < n → (∃ e ∈ o.after, Region.binds md e = true ∧ e.on = i) ∨ ∃ j oj, i < j ∧ j < n ∧ L[j]? = some oj ∧ ∃ e ∈ oj.after, Region.binds md e = true ∧ e.on = i) := by
  unfold peelB at h
  simp only [Bool.and_eq_true, beq_iff_eq] at h
  obtain ⟨⟨h1, h2⟩, h3⟩ := h
  refine ⟨h1, fun i oi hi ho => ?_, fun o ho => ?_⟩
  · have := List.all_eq_true.1 h2 i (List.mem_range.2 hi)
    rw [ho] at this
    simp only [Option.map_some, Option.getD_some, Bool.and_eq_true, Option.isNone_iff_eq_none] at this
    exact ⟨this.1, fun e he hb => by have h := Array.all_eq_true'.1 this.2 e he; simpa [hb] using h⟩
  · rw [ho] at h3
    simp only [Option.map_some, Option.getD_some, Bool.and_eq_true, Option.isNone_iff_eq_none] at h3
    refine ⟨h3.1.1, fun e he hb => by have h := Array.all_eq_true'.1 h3.1.2 e he; simpa [hb] using h, fun i hi => ?_⟩
    have := List.all_eq_true.1 h3.2 i (List.mem_range.2 hi)
    rcases Bool.or_eq_true _ _ ▸ this with this | this
    · obtain ⟨e, he, hb⟩ := Array.any_eq_true'.1 this
      simp only [Bool.and_eq_true, beq_iff_eq] at hb
      exact .inl ⟨e, he, hb.1, hb.2⟩
    · obtain ⟨j, hj, hb⟩ := List.any_eq_true.1 this
      simp only [Bool.and_eq_true, decide_eq_true_eq] at hb
      cases hq : L[j]? with
      | none => rw [hq] at hb; exact absurd hb.2 (by simp)
      | some oj =>
        rw [hq] at hb
        obtain ⟨e, he, hc⟩ := Array.any_eq_true'.1 hb.2
        simp only [Bool.and_eq_true, beq_iff_eq] at hc
        exact .inr ⟨j, oj, hb.1, List.mem_range.1 hj, hq, e, he, hc.1, hc.2⟩

theorem getD_push_lt {l : Array Bool} {b : Bool} {i : Nat} (h : i < l.size) (d : Bool) : (l.push b).getD i d = l.getD i d := by
  simp [Array.getD_eq_getD_getElem?, Array.getElem?_push, Nat.ne_of_lt h]
theorem getD_push_eq {l : Array Bool} {b : Bool} (d : Bool) : (l.push b).getD l.size d = b := by
  simp [Array.getD_eq_getD_getElem?]

theorem ready_lt (hp : peelB md L n = true) {l : Array Bool} (hl : l.size = n) {b : Bool} {i : Nat} (hi : i < n) : i ∈ Region.ready md L.toArray (l.push b) ↔ i ∈ Region.ready md (L.take n).toArray l := by
  obtain ⟨h1, h2, _⟩ := peel_spec hp
  rw [mem_ready, mem_ready]
  have e1 : (L.take n).toArray[i]? = L.toArray[i]? := by simp [hi]
  rw [e1, getD_push_lt (by omega)]
  constructor
  · rintro ⟨oi, g1, g2, g3⟩
    refine ⟨oi, g1, g2, fun e he hb => ?_⟩
    have := g3 e he hb
    rwa [getD_push_lt (by have := (h2 i oi hi (by simpa using g1)).2 e he hb; omega)] at this
  · rintro ⟨oi, g1, g2, g3⟩
    refine ⟨oi, g1, g2, fun e he hb => ?_⟩
    rw [getD_push_lt (by have := (h2 i oi hi (by simpa using g1)).2 e he hb; omega)]
    exact g3 e he hb

theorem all_of_empty (hp : peelB md L n = true) {l : Array Bool} (hl : l.size = n) (hr : Region.ready md (L.take n).toArray l = []) : ∀ i, i < n → l.getD i false = true := by
  obtain ⟨h1, h2, _⟩ := peel_spec hp
  intro i
  induction i using Nat.strongRecOn with
  | _ i ih =>
    intro hi
    cases hg : l.getD i false with
    | true => rfl
    | false =>
      exfalso
      have hlt : i < L.length := by omega
      have hm : i ∈ Region.ready md (L.take n).toArray l := by
        rw [mem_ready]
        refine ⟨L[i], by simp [hi], ?_, fun e he hb => ?_⟩
        · simp only [Array.getD_eq_getD_getElem?, Array.getElem?_eq_getElem (show i < l.size by omega), Option.getD_some] at hg ⊢
          exact hg
        · have := (h2 i L[i] hi (by simp)).2 e he hb
          exact ih e.on this (by omega)
      rw [hr] at hm
      cases hm

theorem n_ready (hp : peelB md L n = true) {l : Array Bool} (hl : l.size = n) (ho : L[n]? = some o) (hr : Region.ready md (L.take n).toArray l = []) : n ∈ Region.ready md L.toArray (l.push false) := by
  have hall := all_of_empty hp hl hr
  obtain ⟨h1, h2, h3⟩ := peel_spec hp
  rw [mem_ready]
  refine ⟨o, by simpa using ho, by rw [← hl]; exact getD_push_eq _, fun e he hb => ?_⟩
  have := (h3 o ho).2.1 e he hb
  rw [getD_push_lt (by omega)]
  exact hall e.on this

/-- What is listed has what it waits for listed. -/
def Closed (md : Region.Mode) (L : List Oper) (n : Nat) (l : Array Bool) : Prop :=
  ∀ j oj, j < n → L[j]? = some oj → l.getD j false = true → ∀ e ∈ oj.after, Region.binds md e = true → l.getD e.on false = true

theorem getD_set {l : Array Bool} {i j : Nat} (h : l.getD j false = true) : (l.setIfInBounds i true).getD j false = true := by
  simp only [Array.getD_eq_getD_getElem?, Array.getElem?_setIfInBounds] at h ⊢
  by_cases e : i = j
  · subst e
    by_cases g : i < l.size
    · simp [g]
    · rw [Array.getElem?_eq_none (by omega)] at h; cases h
  · simpa [e] using h
theorem Closed.set {l : Array Bool} (h : Closed md L n l) {i : Nat} (hi : i ∈ Region.ready md (L.take n).toArray l) : Closed md L n (l.setIfInBounds i true) := by
  intro j oj hj ho hg e he hb
  by_cases q : i = j
  · subst q
    obtain ⟨oi, k1, _, k3⟩ := mem_ready.1 hi
    have e1 : L[i]? = some oi := by simpa [hj] using k1
    rw [e1] at ho
    cases ho
    exact getD_set (k3 e he hb)
  · have hg' : l.getD j false = true := by
      simp only [Array.getD_eq_getD_getElem?, Array.getElem?_setIfInBounds] at hg ⊢
      simpa [q] using hg
    exact getD_set (h j oj hj ho hg' e he hb)

theorem n_only (hp : peelB md L n = true) {l : Array Bool} (hl : l.size = n) (hc : Closed md L n l) (h : n ∈ Region.ready md L.toArray (l.push false)) : Region.ready md (L.take n).toArray l = [] := by
  obtain ⟨h1, h2, h3⟩ := peel_spec hp
  obtain ⟨o, ho, _, g⟩ := mem_ready.1 h
  have hall : ∀ d i, i < n → n - i = d → l.getD i false = true := by
    intro d
    induction d using Nat.strongRecOn with
    | _ d ih =>
      intro i hi hd
      rcases (h3 o (by simpa using ho)).2.2 i hi with ⟨e, he, hb, rfl⟩ | ⟨j, oj, hij, hj, hoj, e, he, hb, rfl⟩
      · have := g e he hb
        rwa [getD_push_lt (by omega)] at this
      · exact hc j oj hj hoj (ih (n - j) (by omega) j hj rfl) e he hb
  rw [List.eq_nil_iff_forall_not_mem]
  intro i hi
  obtain ⟨oi, k1, k2, _⟩ := mem_ready.1 hi
  have hin : i < n := by have := (Array.getElem?_eq_some_iff.1 k1).1; simp at this; omega
  have := hall _ i hin rfl
  simp only [Array.getD_eq_getD_getElem?, Array.getElem?_eq_getElem (show i < l.size by omega), Option.getD_some] at this k2
  rw [k2] at this
  cases this

theorem done_ready (hp : peelB md L n = true) {l : Array Bool} (hl : l.size = n) (hr : Region.ready md (L.take n).toArray l = []) : Region.ready md L.toArray (l.push true) = [] := by
  obtain ⟨h1, h2, h3⟩ := peel_spec hp
  rw [List.eq_nil_iff_forall_not_mem]
  intro i hi
  obtain ⟨oi, k1, k2, _⟩ := mem_ready.1 hi
  have hin : i < n + 1 := by have := (Array.getElem?_eq_some_iff.1 k1).1; simp at this; omega
  by_cases e : i = n
  · rw [e, ← hl, getD_push_eq] at k2
    cases k2
  · have := (ready_lt hp hl (show i < n by omega)).1 hi
    rw [hr] at this
    cases this

theorem wpOp_last (hp : peelB md L n = true) {i : Nat} (hi : i < n) {K : Act → World → Prop} {a : Act} {w : World} (h : wpOp P (L.take n).toArray (lastQ P o Q) i K a w) : wpOp P L.toArray Q i K a w := by
  obtain ⟨h1, h2, _⟩ := peel_spec hp
  have e1 : (L.take n).toArray[i]? = L.toArray[i]? := by simp [hi]
  have hlt : i < L.length := by omega
  have ho : L.toArray[i]? = some L[i] := by simp
  unfold wpOp at h ⊢
  rw [e1, ho] at h
  rw [ho]
  have hg := (h2 i L[i] hi (by simp)).1
  have hw : ∀ y, Region.wanted L[i] y = true := fun y => by simp [Region.wanted, hg]
  simp only [hw, if_true] at h ⊢
  rcases h with h | ⟨h, g⟩
  · exact .inl (upon_last h)
  · exact .inr ⟨h, g⟩

theorem wpAny_peel (hp : peelB md L n = true) (ho : L[n]? = some o) : ∀ (fuel : Nat) (l : Array Bool) (a : Act) (w : World), l.size = n → Closed md L n l → wpAny P md (L.take n).toArray (lastQ P o Q) fuel l a w → wpAny P md L.toArray Q (fuel + 1) (l.push false) a w := by
  have hg := (((peel_spec hp).2.2) o ho).1
  have hw : ∀ y, Region.wanted o y = true := fun y => by simp [Region.wanted, hg]
  have hnm : ∀ (l : Array Bool), l.size = n → Region.ready md L.toArray (l.push false) ≠ [] := by
    intro l hl he
    cases hr : Region.ready md (L.take n).toArray l with
    | nil => have := n_ready hp hl ho hr; rw [he] at this; cases this
    | cons i r =>
      have hm : i ∈ Region.ready md (L.take n).toArray l := by rw [hr]; exact List.mem_cons_self
      have hin : i < n := by
        obtain ⟨_, k1, _⟩ := mem_ready.1 hm
        have := (Array.getElem?_eq_some_iff.1 k1).1
        simp at this
        omega
      have := (ready_lt hp hl (b := false) hin).2 hm
      rw [he] at this
      cases this
  have hlast : ∀ (f : Nat) (l : Array Bool) (a : Act) (w : World), l.size = n → Region.ready md (L.take n).toArray l = [] → lastQ P o Q .normal a w → wpOp P L.toArray Q n (wpAny P md L.toArray Q f ((l.push false).setIfInBounds n true)) a w := by
    intro f l a w hl hr hq
    have hs : (l.push false).setIfInBounds n true = l.push true := by
      subst hl
      apply Array.ext_getElem?
      intro j
      simp only [Array.getElem?_setIfInBounds, Array.getElem?_push]
      by_cases e : l.size = j
      · subst e; simp
      · simp [e, Ne.symm e]
    rw [hs]
    unfold wpOp
    have ho' : L.toArray[n]? = some o := by simpa using ho
    rw [ho']
    simp only [hw, if_true]
    refine .inl (Oper.wp_mono (fun a' w' h => ?_) hq)
    have hd := done_ready hp hl hr
    cases f with
    | zero => exact ⟨hd, h⟩
    | succ f => exact ⟨fun _ => h, by rw [hd]; simp⟩
  intro fuel
  induction fuel with
  | zero =>
    rintro l a w hl _ ⟨hr, hq⟩
    refine ⟨fun h => absurd h (hnm l hl), fun i hi => ?_⟩
    have hin : i = n := by
      obtain ⟨_, k1, _⟩ := mem_ready.1 hi
      have h1 := (peel_spec hp).1
      have := (Array.getElem?_eq_some_iff.1 k1).1
      simp at this
      by_cases e : i = n
      · exact e
      · have := (ready_lt hp hl (b := false) (show i < n by omega)).1 hi
        rw [hr] at this
        cases this
    subst hin
    exact hlast 0 l a w hl hr hq
  | succ f ih =>
    rintro l a w hl hc ⟨hq, hs⟩
    refine ⟨fun h => absurd h (hnm l hl), fun i hi => ?_⟩
    by_cases e : i = n
    · subst e
      have hr := n_only hp hl hc hi
      exact hlast (f + 1) l a w hl hr (hq hr)
    · have hin : i < n := by
        obtain ⟨_, k1, _⟩ := mem_ready.1 hi
        have h1 := (peel_spec hp).1
        have := (Array.getElem?_eq_some_iff.1 k1).1
        simp at this
        omega
      have hm := (ready_lt hp hl (b := false) hin).1 hi
      refine wpOp_last hp hin (wpOp_mono (fun a' w' h => ?_) (hs i hm))
      have := ih (l.setIfInBounds i true) a' w' (by simpa using hl) (hc.set hm) h
      have e2 : (l.setIfInBounds i true).push false = (l.push false).setIfInBounds i true := by
        apply Array.ext_getElem?
        intro j
        simp only [Array.getElem?_setIfInBounds, Array.getElem?_push, Array.size_setIfInBounds]
        by_cases e1 : i = j
        · subst e1
          have g1 : ¬ (i = n) := by omega
          have g2 : i < n + 1 := by omega
          simp [hl, hin, g1, g2]
        · simp [e1]
      rw [e2] at this
      exact this

/-- The others by one condition on the world, then the last. -/
theorem wp_region_peel {id : Nat} {a : Act} {w : World} {S : World → Prop} (n : Nat) (o : Oper) (hm : P.follows .mixedOrders = true) (hp : peelB .any L n = true) (ho : L[n]? = some o)
    (h : wpAnyH P .any (L.take n).toArray (lastQ P o Q) S n (Array.replicate n false) a { w with drawn := w.drawn + 1 }) : (Code.region id L.toArray true).wp P Q a w := by
  refine wp_region_any hm ?_
  have h1 := (peel_spec hp).1
  have := wpAny_peel hp ho n (Array.replicate n false) a { w with drawn := w.drawn + 1 } (by simp) (fun j oj hj _ hg => by simp [Array.getD_eq_getD_getElem?, hj] at hg) (wpAny_of_held _ _ _ _ h)
  have e : (Array.replicate n false).push false = Array.replicate L.toArray.size false := by
    rw [List.size_toArray, h1, Array.replicate_succ]
  rw [e] at this
  rw [List.size_toArray, h1]
  rw [List.size_toArray, h1] at this
  exact this

theorem takeH {S : World → Prop} {l : List Oper} (i : Nat) {oi : Oper} {v : Value} {fuel : Nat} {listed : Array Bool} {a : Act} {w : World} (hi : l[i]? = some oi)
    (hs : Region.noSelect l.toArray = true) (hf : Region.free md l.toArray listed i = true) (hr : (Region.ready md l.toArray listed).contains i = true)
    (hQ : ∀ c a w, Q (.panic c) (a.put oi.dst v) w → Q (.panic c) a w) (hg : oi.guard = none) (hy : ∀ w, S w → (execOp a.eval oi).run P w = .ok (.value v) w) (hS : S w)
    (h : wpAnyH P md l.toArray Q S fuel (listed.setIfInBounds i true) (a.put oi.dst v) w) : wpAnyH P md l.toArray Q S (fuel + 1) listed a w :=
  wpAnyH_take (by simpa using hi) hs hf hr hQ (Or.inl ⟨by simp [Region.wanted, hg], hy⟩) hS h

theorem oneH {S : World → Prop} {l : List Oper} (i : Nat) {oi : Oper} {fuel : Nat} {listed : Array Bool} {a : Act} {w : World} (hr : Region.ready md l.toArray listed = [i]) (hi : l[i]? = some oi) (hg : oi.guard = none)
    (h : ∀ K : Act → World → Prop, (∀ a' w', S w' → wpAnyH P md l.toArray Q S fuel (listed.setIfInBounds i true) a' w' → K a' w') → oi.wp P a w K Q) : wpAnyH P md l.toArray Q S (fuel + 1) listed a w := by
  refine wpAnyH_all hr (by simp) ?_
  intro j hj
  obtain rfl : j = i := by simpa using hj
  unfold wpOp
  have hi' : l.toArray[j]? = some oi := by simpa using hi
  rw [hi']
  have hw : ∀ y, Region.wanted oi y = true := fun y => by simp [Region.wanted, hg]
  simp only [hw, if_true]
  exact .inl (h _ fun a' w' h1 h2 => ⟨h1, h2⟩)

end
end Go.Proofs.Ytnijjpakpphhhaa.Kit
