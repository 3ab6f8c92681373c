/-
  OWN TEXTS, bundled: ZMayB, ZGivP, ZChP, ZHaP, ZTkP, ZTkP2, ZStP, ZTkP3, ZTkQ, ZCnt, ZInv, ZcSmall.
-/
import Derived.Test.YtffhpjjioefaeafDoorPart2

/-
  OWN TEXT. A zone that may be stays one when a block comes back: plain mathematics.
-/
namespace Go.Proofs.YtffhpjjioefaeafDoor.Kit

/-- The first one ends ahead of the second one, and they are not beside each other. -/
def Ahead (p q : Bk) : Prop := p.a + pw p.o ≤ q.a ∧ ¬ besideP p q
/-- Each of them may be in the zone. -/
def AllIn (f t : Int) (l : List Bk) : Prop := ∀ b ∈ l, blkIn f t b.a b.o ∧ typeOk b.t

theorem freeOk_pw {f t lo : Int} {pv : Option Bk} {l : List Bk} (h : FreeOk f t lo pv l) : AllIn f t l ∧ (∀ b ∈ l, lo ≤ b.a) ∧ l.Pairwise Ahead := by
  induction l generalizing lo pv with
  | nil => exact ⟨fun b hb => by simp at hb, fun b hb => by simp at hb, List.Pairwise.nil⟩
  | cons b l ih =>
    obtain ⟨h1, h2, h3, _, h5⟩ := h
    obtain ⟨i1, i2, i3⟩ := ih h5
    have hp := pw_pos b.o
    refine ⟨fun x hx => ?_, fun x hx => ?_, List.Pairwise.cons (fun x hx => ⟨i2 x hx, ?_⟩) i3⟩
    · rcases List.mem_cons.1 hx with rfl | hx
      · exact ⟨h1, h2⟩
      · exact i1 x hx
    · rcases List.mem_cons.1 hx with rfl | hx
      · exact h3
      · have := i2 x hx; omega
    · cases l with
      | nil => simp at hx
      | cons c l =>
        obtain ⟨_, _, k3, k4, _⟩ := h5
        rcases List.mem_cons.1 hx with rfl | hx
        · exact k4 b rfl
        · have := (List.pairwise_cons.1 i3).1 x hx
          rintro ⟨_, e2, e3, _⟩
          have := this.1
          have hc := pw_pos c.o
          rw [← e2] at e3
          omega

theorem freeOk_of {f t lo : Int} {pv : Option Bk} {l : List Bk} (h1 : AllIn f t l) (h2 : ∀ b ∈ l, lo ≤ b.a) (h3 : l.Pairwise Ahead) (h4 : ∀ p, pv = some p → ∀ b ∈ l, ¬ besideP p b) : FreeOk f t lo pv l := by
  induction l generalizing lo pv with
  | nil => trivial
  | cons b l ih =>
    have hb := h1 b (by simp)
    have hp := List.pairwise_cons.1 h3
    exact ⟨hb.1, hb.2, h2 b (by simp), fun p e => h4 p e b (by simp), ih (fun x hx => h1 x (by simp [hx])) (fun x hx => (hp.1 x hx).1) hp.2 (fun p e x hx => by cases e; exact (hp.1 x hx).2)⟩

theorem free_iff {f t : Int} {l : List Bk} : FreeOk f t f none l ↔ AllIn f t l ∧ l.Pairwise Ahead :=
  ⟨fun h => ⟨(freeOk_pw h).1, (freeOk_pw h).2.2⟩, fun ⟨h1, h2⟩ => freeOk_of h1 (fun b hb => (h1 b hb).1.2.1) h2 (fun p e => by cases e)⟩

/-- It has no page in common with any of them. -/
def NoOv (l : List Bk) (a o : Int) : Prop := ∀ b ∈ l, b.a + pw b.o ≤ a ∨ a + pw o ≤ b.a
theorem noOv_of {l : List Bk} {a o : Int} (h : ¬ ovlP l a o) : NoOv l a o := by
  intro b hb
  obtain ⟨i, hi, rfl⟩ := List.getElem_of_mem hb
  by_cases h1 : l[i].a + pw l[i].o ≤ a
  · exact .inl h1
  · by_cases h2 : a + pw o ≤ l[i].a
    · exact .inr h2
    · exact absurd ⟨i, hi, by rw [List.getD_eq_getElem?_getD, List.getElem?_eq_getElem hi]; exact ⟨by simp only [Option.getD_some]; omega, by simp only [Option.getD_some]; omega⟩⟩ h

theorem ahead_or {l : List Bk} (h : l.Pairwise Ahead) {p q : Bk} (hp : p ∈ l) (hq : q ∈ l) (hne : ¬ (p.a = q.a ∧ p.o = q.o)) : Ahead p q ∨ Ahead q p := by
  obtain ⟨i, hi, rfl⟩ := List.getElem_of_mem hp
  obtain ⟨j, hj, rfl⟩ := List.getElem_of_mem hq
  rw [List.pairwise_iff_getElem] at h
  by_cases e : i < j
  · exact .inl (h i j hi hj e)
  · by_cases g : j < i
    · exact .inr (h j i hj hi g)
    · obtain rfl : i = j := by omega
      exact absurd ⟨rfl, rfl⟩ hne

theorem beside_cases {a o : Int} (h0 : 0 ≤ o) (h4 : o < 4) (hm : a % pw o = 0) : pw (o + 1) = 2 * pw o ∧ ((a % pw (o + 1) = 0 ∧ besideA a o = a + pw o) ∨ (¬ a % pw (o + 1) = 0 ∧ besideA a o = a - pw o ∧ a % pw (o + 1) = pw o)) := by
  rcases (show o = 0 ∨ o = 1 ∨ o = 2 ∨ o = 3 by omega) with rfl | rfl | rfl | rfl
  all_goals
    unfold besideA
    simp only [pw_0, pw_1, pw_2, pw_3, pw_4, show (0 : Int) + 1 = 1 from rfl, show (1 : Int) + 1 = 2 from rfl, show (2 : Int) + 1 = 3 from rfl, show (3 : Int) + 1 = 4 from rfl] at hm ⊢
    refine ⟨by omega, ?_⟩
    split
    · exact .inl ⟨by assumption, rfl⟩
    · exact .inr ⟨by assumption, rfl, by omega⟩

/-- What holds of a block that comes back, while it is joined. -/
structure GoI (f t : Int) (l : List Bk) (a o : Int) : Prop where
  all : AllIn f t l
  pw : l.Pairwise Ahead
  blk : blkIn f t a o
  no : NoOv l a o

theorem go_step {f t : Int} {l : List Bk} {a o : Int} (h : GoI f t l a o) (ho : o < 4) (hb : hasB l (besideA a o) o = true) : GoI f t (dropB l (besideA a o) o) (if besideA a o < a then besideA a o else a) (o + 1) := by
  obtain ⟨⟨o0, o4⟩, a1, a2, a3⟩ := h.blk
  have hbi : blkIn f t (besideA a o) o := hasB_in hb (fun b hb => (h.all b hb).1)
  refine ⟨fun b hb => h.all b (dropB_mem hb), List.Pairwise.filter _ h.pw, join_in h.blk hbi ho, fun b hb' => ?_⟩
  have hbl := dropB_mem hb'
  have hnb : isB (besideA a o) o b = false := by
    have := (List.mem_filter.1 hb').2
    simpa using this
  have hno := h.no b hbl
  unfold hasB at hb
  rw [List.any_eq_true] at hb
  obtain ⟨x, hx, hxi⟩ := hb
  obtain ⟨x1, x2⟩ := of_decide_eq_true hxi
  have hor := ahead_or h.pw hbl hx (by rw [x1, x2]; exact of_decide_eq_false hnb)
  have hp := pw_pos b.o
  have hpo := pw_pos o
  obtain ⟨e2, hc⟩ := beside_cases o0 ho a3
  rw [e2]
  unfold Ahead at hor
  rw [x1, x2] at hor
  rcases hc with ⟨_, hc⟩ | ⟨_, hc, _⟩
  · rw [hc] at hor ⊢
    rw [if_neg (by omega)]
    rcases hor with ⟨g, _⟩ | ⟨g, _⟩ <;> omega
  · rw [hc] at hor ⊢
    rw [if_pos (by omega)]
    rcases hor with ⟨g, _⟩ | ⟨g, _⟩ <;> omega

/-- What holds when it is joined. -/
theorem go_all {f t : Int} : ∀ (n : Nat) (l : List Bk) (a o : Int), (4 - o).toNat = n → GoI f t l a o →
    GoI f t (backGo n l a o).1 (backGo n l a o).2.1 (backGo n l a o).2.2 ∧ ((backGo n l a o).2.2 = 4 ∨ hasB (backGo n l a o).1 (besideA (backGo n l a o).2.1 (backGo n l a o).2.2) (backGo n l a o).2.2 = false) := by
  intro n
  induction n with
  | zero =>
    intro l a o hn h
    have := h.blk.1.2
    exact ⟨h, .inl (by show o = 4; omega)⟩
  | succ n ih =>
    intro l a o hn h
    unfold backGo
    by_cases hb : hasB l (besideA a o) o = true
    · rw [if_pos hb]
      exact ih _ _ _ (by omega) (go_step h (by omega) hb)
    · rw [if_neg hb]
      exact ⟨h, .inr (by simpa using hb)⟩

theorem mem_addB {l : List Bk} {b x : Bk} : x ∈ addB l b ↔ x = b ∨ x ∈ l := by
  induction l with
  | nil => simp [addB]
  | cons y l ih =>
    unfold addB
    split
    · simp
    · simp only [List.mem_cons, ih]
      constructor
      · rintro (h | h | h)
        · exact .inr (.inl h)
        · exact .inl h
        · exact .inr (.inr h)
      · rintro (h | h | h)
        · exact .inr (.inl h)
        · exact .inl h
        · exact .inr (.inr h)

theorem addB_pw {l : List Bk} {b : Bk} (h : l.Pairwise Ahead) (hno : NoOv l b.a b.o) (h1 : ∀ x ∈ l, ¬ besideP x b) (h2 : ∀ x ∈ l, ¬ besideP b x) : (addB l b).Pairwise Ahead := by
  have hp := pw_pos b.o
  induction l with
  | nil => exact List.pairwise_singleton _ _
  | cons x l ih =>
    have hx := List.pairwise_cons.1 h
    have hpx := pw_pos x.o
    have hnx := hno x (by simp)
    unfold addB
    split
    · rename_i hg
      refine List.Pairwise.cons (fun y hy => ⟨?_, h2 y hy⟩) h
      have hny := hno y hy
      rcases List.mem_cons.1 hy with rfl | hy'
      · omega
      · have := (hx.1 y hy').1
        have hpy := pw_pos y.o
        omega
    · rename_i hg
      refine List.Pairwise.cons (fun y hy => ?_) (ih hx.2 (fun y hy => hno y (by simp [hy])) (fun y hy => h1 y (by simp [hy])) (fun y hy => h2 y (by simp [hy])))
      rcases mem_addB.1 hy with rfl | hy
      · exact ⟨by omega, h1 x (by simp)⟩
      · exact hx.1 y hy

/-- A ZONE THAT MAY BE stays one when a block comes back. -/
theorem backZ_may {z : Zn} {a o : Int} (h : ZMay z) (hA : blkIn z.f z.t a o) (hv : ¬ ovlP z.free a o) : ZMay (backZ z a o) := by
  obtain ⟨q1, q2⟩ := free_iff.1 h.free
  obtain ⟨G, hl⟩ := go_all (f := z.f) (t := z.t) (4 - o).toNat z.free a o rfl ⟨q1, q2, hA, noOv_of hv⟩
  obtain ⟨R, hR⟩ : ∃ R, backGo (4 - o).toNat z.free a o = R := ⟨_, rfl⟩
  have hz : backZ z a o = ⟨z.f, z.t, addB R.1 ⟨R.2.1, R.2.2, z.types.getD ((R.2.1 - z.f) / 8).toNat 0⟩, z.types⟩ := by unfold backZ; rw [hR]
  rw [hR] at G hl
  obtain ⟨⟨o0, o4⟩, a1, a2, a3⟩ := G.blk
  have hlen := h.len
  have hty : typeOk (z.types.getD ((R.2.1 - z.f) / 8).toNat 0) := h.ty _ (by omega)
  rw [hz]
  refine ⟨h.new, h.len, h.ty, free_iff.2 ⟨fun b hb => ?_, addB_pw G.pw G.no (fun x hx => ?_) (fun x hx => ?_)⟩⟩
  · rcases mem_addB.1 hb with rfl | hb
    · exact ⟨G.blk, hty⟩
    · exact G.all b hb
  · rintro ⟨b1, b2, b3, b4⟩
    dsimp only at b1 b2 b3 b4
    obtain ⟨_, hc⟩ := beside_cases o0 b1 a3
    have hh : besideA R.2.1 R.2.2 = x.a := by
      rcases hc with ⟨g, _⟩ | ⟨_, g, _⟩
      · exfalso
        rw [← b3] at g
        rcases (show R.2.2 = 0 ∨ R.2.2 = 1 ∨ R.2.2 = 2 ∨ R.2.2 = 3 by omega) with e | e | e | e
        all_goals
          rw [e] at g b4
          simp only [pw_0, pw_1, pw_2, pw_3, pw_4, show (0 : Int) + 1 = 1 from rfl, show (1 : Int) + 1 = 2 from rfl, show (2 : Int) + 1 = 3 from rfl, show (3 : Int) + 1 = 4 from rfl] at g b4
          omega
      · omega
    rcases hl with g | g
    · omega
    · rw [hh] at g
      unfold hasB at g
      rw [List.any_eq_false] at g
      exact g x hx (decide_eq_true ⟨rfl, b2⟩)
  · rintro ⟨b1, b2, b3, b4⟩
    dsimp only at b1 b2 b3 b4
    rw [← b2] at b1 b3 b4
    have hh : besideA R.2.1 R.2.2 = x.a := by unfold besideA; rw [if_pos b4]; exact b3
    rcases hl with g | g
    · omega
    · rw [hh] at g
      unfold hasB at g
      rw [List.any_eq_false] at g
      exact g x hx (decide_eq_true ⟨rfl, b2.symm⟩)

end Go.Proofs.YtffhpjjioefaeafDoor.Kit

/-
  OWN TEXT. Pages come back one by one: plain mathematics.
-/
namespace Go.Proofs.YtffhpjjioefaeafDoor.Kit

/-- n pages, from p on, come back one by one; none: one of them is free. -/
def giveK : Nat → Zn → Int → Option Zn
  | 0, z, _ => some z
  | n + 1, z, p => if z.free.any (ovl1 (p + pw 0) p) = true then none else giveK n (backZ z p 0) (p + 1)

/-- What may be given. -/
def giveOk (z : Zn) (a s : Int) : Prop := z.f ≤ a ∧ a ≤ z.t ∧ 0 ≤ s ∧ s ≤ z.t - a

theorem page_in {z : Zn} {p : Int} (h1 : z.f ≤ p) (h2 : p < z.t) : blkIn z.f z.t p 0 := ⟨⟨by omega, by omega⟩, h1, by omega, by rw [pw_0]; omega⟩
theorem give_none {n : Nat} {z : Zn} {p : Int} (h : ovlP z.free p 0) : giveK (n + 1) z p = none := by
  unfold giveK
  rw [if_pos ((ovl_any z.free p 0).2 h)]
theorem give_some {n : Nat} {z : Zn} {p : Int} (h : ¬ ovlP z.free p 0) : giveK (n + 1) z p = giveK n (backZ z p 0) (p + 1) := by
  show (if _ then _ else _) = _
  rw [if_neg (fun g => h ((ovl_any z.free p 0).1 g))]

end Go.Proofs.YtffhpjjioefaeafDoor.Kit

/-
  OWN TEXT. Which free block is taken: plain mathematics.
-/
namespace Go.Proofs.YtffhpjjioefaeafDoor.Kit

/-- A block of an order and a type. -/
def isT (o t : Int) (b : Bk) : Bool := decide (b.o = o ∧ b.t = t)
/-- The first place at which it holds, or -1. -/
def fidx (g : Bk → Bool) : List Bk → Int
  | [] => -1
  | b :: l => if g b = true then 0 else if fidx g l < 0 then -1 else fidx g l + 1

theorem fidx_none {g : Bk → Bool} {l : List Bk} (h : ∀ j, j < l.length → g (l.getD j .zero) = false) : fidx g l = -1 := by
  induction l with
  | nil => rfl
  | cons b l ih =>
    have h0 : g b = false := by simpa using h 0 (by simp)
    have := ih (fun j hj => by simpa using h (j + 1) (by simpa using hj))
    unfold fidx
    rw [h0, this]
    rfl
theorem fidx_some {g : Bk → Bool} {l : List Bk} {k : Nat} (hk : k < l.length) (h1 : g (l.getD k .zero) = true) (h2 : ∀ j, j < k → g (l.getD j .zero) = false) : fidx g l = k := by
  induction l generalizing k with
  | nil => simp at hk
  | cons b l ih =>
    cases k with
    | zero =>
      have h0 : g b = true := by simpa using h1
      unfold fidx
      rw [if_pos h0]; rfl
    | succ k =>
      have h0 : g b = false := by simpa using h2 0 (by omega)
      have := ih (k := k) (by simpa using hk) (by simpa using h1) (fun j hj => by simpa using h2 (j + 1) (by omega))
      unfold fidx
      rw [h0, this, if_neg (by simp), if_neg (by omega)]
      omega

/-- Of the type itself, from order o on, n orders. -/
def upI (l : List Bk) (t : Int) : Nat → Int → Int
  | 0, _ => -1
  | n + 1, o => if 0 ≤ fidx (isT o t) l then fidx (isT o t) l else upI l t n (o + 1)
/-- Of two others, from order o + n - 1 down to o. -/
def dnI (l : List Bk) (u v o : Int) : Nat → Int
  | 0 => -1
  | n + 1 => if 0 ≤ fidx (isT (o + n) u) l then fidx (isT (o + n) u) l else if 0 ≤ fidx (isT (o + n) v) l then fidx (isT (o + n) v) l else dnI l u v o n
/-- The others, in their order. -/
def other1 (t : Int) : Int := if t = 2 then 0 else 2
def other2 (t : Int) : Int := if t = 1 then 0 else 1
/-- The place of the block that is taken, or -1. -/
def chooseI (l : List Bk) (o t : Int) : Int := if 0 ≤ upI l t (5 - o).toNat o then upI l t (5 - o).toNat o else dnI l (other1 t) (other2 t) o (5 - o).toNat

end Go.Proofs.YtffhpjjioefaeafDoor.Kit

/-
  OWN TEXT. What stays free of a block that is halved: plain mathematics.
-/
namespace Go.Proofs.YtffhpjjioefaeafDoor.Kit

/-- The upper halves, by places: m of them, from order o on. -/
def halvesL (a t o : Int) : Nat → List Bk
  | 0 => []
  | m + 1 => halvesL a t o m ++ [⟨a + pw (o + m), o + m, t⟩]
theorem halvesL_len (a t o : Int) (m : Nat) : (halvesL a t o m).length = m := by
  induction m with
  | zero => rfl
  | succ m ih => simp [halvesL, ih]

end Go.Proofs.YtffhpjjioefaeafDoor.Kit

/-
  OWN TEXT. A block that is taken: the first that fits, and the halves that go back one by one: plain mathematics.
-/
namespace Go.Proofs.YtffhpjjioefaeafDoor.Kit

theorem fidx_ge (g : Bk → Bool) (l : List Bk) : -1 ≤ fidx g l := by
  induction l with
  | nil => exact Int.le_refl (-1)
  | cons b l ih =>
    unfold fidx
    split
    · decide
    · split
      · decide
      · omega

theorem pw_succ (o : Int) (h : 0 ≤ o) : pw (o + 1) = 2 * pw o := by
  unfold pw
  have e : (o + 1).toNat = o.toNat + 1 := by omega
  rw [e, Nat.pow_succ]
  omega

/-- The first that fits stands at the first place. -/
theorem find_fidx (g : Bk → Bool) (l : List Bk) : l.find? g = if 0 ≤ fidx g l then some (l.getD (fidx g l).toNat .zero) else none := by
  induction l with
  | nil => rfl
  | cons b l ih =>
    by_cases hb : g b = true
    · rw [List.find?_cons_of_pos hb]
      unfold fidx
      rw [if_pos hb]
      rfl
    · rw [List.find?_cons_of_neg hb, ih]
      have hge := fidx_ge g l
      conv => rhs; unfold fidx
      rw [if_neg hb]
      by_cases hn : fidx g l < 0
      · rw [if_pos hn, if_neg (by omega), if_neg (by decide)]
      · rw [if_neg hn, if_pos (by omega), if_pos (by omega)]
        have e : (fidx g l + 1).toNat = (fidx g l).toNat + 1 := by omega
        rw [e]
        rfl

/-- A block goes between those that begin not later and those that begin later. -/
theorem addB_mid (p q : List Bk) (h : Bk) (hp : ∀ x ∈ p, x.a ≤ h.a) (hq : ∀ x ∈ q, h.a < x.a) : addB (p ++ q) h = p ++ h :: q := by
  induction p with
  | nil =>
    cases q with
    | nil => rfl
    | cons y q =>
      have := hq y (by simp)
      show (if y.a > h.a then h :: y :: q else y :: addB q h) = _
      rw [if_pos (by omega)]
      rfl
  | cons x p ih =>
    have := hp x (by simp)
    show (if x.a > h.a then h :: x :: (p ++ q) else x :: addB (p ++ q) h) = _
    rw [if_neg (by omega), ih (fun y hy => hp y (by simp [hy]))]
    rfl

/-- The upper halves put back one by one, the greatest first. -/
def putH (a t o : Int) : Nat → List Bk → List Bk
  | 0, l => l
  | m + 1, l => putH a t o m (addB l ⟨a + pw (o + m), o + m, t⟩)

theorem putH_mid (a t o : Int) (ho : 0 ≤ o) (p : List Bk) (hp : ∀ x ∈ p, x.a ≤ a) (m : Nat) (q : List Bk) (hq : ∀ x ∈ q, a + pw (o + m) ≤ x.a) :
    putH a t o m (p ++ q) = p ++ halvesL a t o m ++ q := by
  induction m generalizing q with
  | zero => simp [putH, halvesL]
  | succ m ih =>
    have hs : pw (o + (m + 1 : Nat)) = 2 * pw (o + m) := by
      have : o + ((m + 1 : Nat) : Int) = (o + m) + 1 := by omega
      rw [this]
      exact pw_succ (o + m) (by omega)
    have hpos := pw_pos (o + m)
    unfold putH halvesL
    rw [addB_mid p q _ (fun x hx => by have := hp x hx; show x.a ≤ a + pw (o + m); omega) (fun x hx => by have := hq x hx; show a + pw (o + m) < x.a; omega)]
    rw [ih (⟨a + pw (o + m), o + m, t⟩ :: q)]
    · simp
    · intro x hx
      rcases List.mem_cons.1 hx with rfl | hx
      · exact Int.le_refl _
      · have := hq x hx
        omega

theorem dropB_mid (p q : List Bk) (b : Bk) (hp : ∀ x ∈ p, x.a ≠ b.a) (hq : ∀ x ∈ q, x.a ≠ b.a) : dropB (p ++ b :: q) b.a b.o = p ++ q := by
  have k : ∀ l : List Bk, (∀ x ∈ l, x.a ≠ b.a) → l.filter (fun x => !isB b.a b.o x) = l := fun l hl => List.filter_eq_self.2 fun x hx => by
    have := hl x hx
    simp [isB, this]
  unfold dropB
  rw [List.filter_append, k p hp, List.filter_cons, k q hq]
  simp [isB]

/-- Taking a block out and putting its upper halves back is putting them in its place. -/
theorem take_place (p q : List Bk) (b : Bk) (t o : Int) (ho : 0 ≤ o) (hob : o ≤ b.o) (hr : (p ++ b :: q).Pairwise fun x y => x.a + pw x.o ≤ y.a) :
    putH b.a t o (b.o - o).toNat (dropB (p ++ b :: q) b.a b.o) = p ++ halvesL b.a t o (b.o - o).toNat ++ q := by
  obtain ⟨_, h2, h3⟩ := List.pairwise_append.1 hr
  obtain ⟨h4, _⟩ := List.pairwise_cons.1 h2
  have hpb : ∀ x ∈ p, x.a + pw x.o ≤ b.a := fun x hx => h3 x hx b (by simp)
  have hpos := pw_pos b.o
  rw [dropB_mid p q b (fun x hx => by have := hpb x hx; have := pw_pos x.o; omega) (fun x hx => by have := h4 x hx; omega)]
  have e : o + ((b.o - o).toNat : Int) = b.o := by omega
  exact putH_mid b.a t o ho p (fun x hx => by have := hpb x hx; have := pw_pos x.o; omega) _ q (fun x hx => by rw [e]; exact h4 x hx)

end Go.Proofs.YtffhpjjioefaeafDoor.Kit

/-
  OWN TEXT. What is left free when a block is taken may be: plain mathematics.
-/
namespace Go.Proofs.YtffhpjjioefaeafDoor.Kit

theorem halves_mem {a t o : Int} {m : Nat} {x : Bk} (h : x ∈ halvesL a t o m) : ∃ k : Nat, k < m ∧ x = ⟨a + pw (o + k), o + k, t⟩ := by
  induction m with
  | zero => simp [halvesL] at h
  | succ m ih =>
    unfold halvesL at h
    rcases List.mem_append.1 h with h | h
    · obtain ⟨k, hk, e⟩ := ih h
      exact ⟨k, by omega, e⟩
    · exact ⟨m, by omega, by simpa using h⟩

theorem pw_mono {i j : Int} (h : i ≤ j) : pw i ≤ pw j := by
  unfold pw
  exact Int.ofNat_le.2 (Nat.pow_le_pow_right (by decide) (by omega))

theorem halves_ahead (a t o : Int) (ho : 0 ≤ o) (m : Nat) : (halvesL a t o m).Pairwise Ahead := by
  induction m with
  | zero => exact List.Pairwise.nil
  | succ m ih =>
    unfold halvesL
    refine List.pairwise_append.2 ⟨ih, List.pairwise_singleton _ _, ?_⟩
    intro x hx y hy
    obtain ⟨k, hk, rfl⟩ := halves_mem hx
    have hy' : y = ⟨a + pw (o + m), o + m, t⟩ := by simpa using hy
    subst hy'
    refine ⟨?_, fun hb => ?_⟩
    · have h1 := pw_succ (o + k) (by omega)
      have h2 := pw_mono (i := o + k + 1) (j := o + m) (by omega)
      show a + pw (o + k) + pw (o + k) ≤ a + pw (o + m)
      omega
    · have h3 : o + (k : Int) = o + m := hb.2.1
      omega

theorem upper_odd {a k bo : Int} (hb : ordOk bo) (h0 : 0 ≤ k) (h1 : k < bo) (ha : a % pw bo = 0) : (a + pw k) % pw (k + 1) ≠ 0 := by
  rw [pw_succ k h0]
  rcases ord_cases hb with ⟨e, p⟩ | ⟨e, p⟩ | ⟨e, p⟩ | ⟨e, p⟩ | ⟨e, p⟩ <;> rw [p] at ha <;>
    rcases ord_cases (o := k) ⟨h0, by obtain ⟨_, _⟩ := hb; omega⟩ with ⟨e', p'⟩ | ⟨e', p'⟩ | ⟨e', p'⟩ | ⟨e', p'⟩ | ⟨e', p'⟩ <;> rw [p'] <;> omega

theorem take_ahead {f z : Int} (p q : List Bk) (b : Bk) (t o : Int) (ho : 0 ≤ o) (hi : AllIn f z (p ++ b :: q)) (hr : (p ++ b :: q).Pairwise Ahead) :
    (p ++ halvesL b.a t o (b.o - o).toNat ++ q).Pairwise Ahead := by
  obtain ⟨h1, h2, h3⟩ := List.pairwise_append.1 hr
  obtain ⟨h4, h5⟩ := List.pairwise_cons.1 h2
  obtain ⟨⟨hbo, hba, hbz, hal⟩, _⟩ := hi b (by simp)
  refine List.pairwise_append.2 ⟨List.pairwise_append.2 ⟨h1, halves_ahead _ _ _ ho _, ?_⟩, h5, ?_⟩
  · intro x hx y hy
    obtain ⟨k, hk, rfl⟩ := halves_mem hy
    have hxb := (h3 x hx b (by simp)).1
    have hp := pw_pos (o + k)
    have hpx := pw_pos x.o
    refine ⟨?_, fun hb => ?_⟩
    · show x.a + pw x.o ≤ b.a + pw (o + k)
      omega
    · have h6 : x.a + pw (o + k) = b.a + pw (o + k) := hb.2.2.1
      omega
  · intro x hx y hy
    rcases List.mem_append.1 hx with hx | hx
    · exact h3 x hx y (by simp [hy])
    · obtain ⟨k, hk, rfl⟩ := halves_mem hx
      have hby := (h4 y hy).1
      have h6 := pw_succ (o + k) (by omega)
      have h7 := pw_mono (i := o + k + 1) (j := b.o) (by omega)
      refine ⟨?_, fun hb => ?_⟩
      · show b.a + pw (o + k) + pw (o + k) ≤ y.a
        omega
      · have h8 : o + (k : Int) = y.o := hb.2.1
        have h9 : (b.a + pw (o + k)) % pw (y.o + 1) = 0 := hb.2.2.2
        rw [← h8] at h9
        exact upper_odd hbo (by omega) (by omega) hal h9

theorem take_in {f z : Int} (p q : List Bk) (b : Bk) (t o : Int) (ho : 0 ≤ o) (ht : typeOk t) (hz : z % 16 = 0) (hi : AllIn f z (p ++ b :: q)) :
    AllIn f z (p ++ halvesL b.a t o (b.o - o).toNat ++ q) := by
  intro x hx
  obtain ⟨⟨hbo, hba, hbz, hal⟩, _⟩ := hi b (by simp)
  rcases List.mem_append.1 hx with hx | hx
  · rcases List.mem_append.1 hx with hx | hx
    · exact hi x (by simp [hx])
    · obtain ⟨k, hk, rfl⟩ := halves_mem hx
      have hK : o + (k : Int) < b.o := by omega
      have hK0 : 0 ≤ o + (k : Int) := by omega
      obtain ⟨K, e⟩ : ∃ K, o + (k : Int) = K := ⟨_, rfl⟩
      rw [e] at hK hK0 ⊢
      have hb4 := hbo.2
      have hK4 : K ≤ 4 := by omega
      refine ⟨⟨⟨hK0, hK4⟩, ?_, ?_, ?_⟩, ht⟩
      · show f ≤ b.a + pw K
        have := pw_pos K
        omega
      · show b.a + pw K ≤ z - 1
        rcases ord_cases hbo with ⟨e1, e2⟩ | ⟨e1, e2⟩ | ⟨e1, e2⟩ | ⟨e1, e2⟩ | ⟨e1, e2⟩ <;> rw [e2] at hal <;>
          rcases ord_cases (o := K) ⟨hK0, hK4⟩ with ⟨e3, e4⟩ | ⟨e3, e4⟩ | ⟨e3, e4⟩ | ⟨e3, e4⟩ | ⟨e3, e4⟩ <;> rw [e4] <;> omega
      · show (b.a + pw K) % pw K = 0
        rcases ord_cases hbo with ⟨e1, e2⟩ | ⟨e1, e2⟩ | ⟨e1, e2⟩ | ⟨e1, e2⟩ | ⟨e1, e2⟩ <;> rw [e2] at hal <;>
          rcases ord_cases (o := K) ⟨hK0, hK4⟩ with ⟨e3, e4⟩ | ⟨e3, e4⟩ | ⟨e3, e4⟩ | ⟨e3, e4⟩ | ⟨e3, e4⟩ <;> rw [e4] <;> omega
  · exact hi x (by simp [hx])

end Go.Proofs.YtffhpjjioefaeafDoor.Kit

/-
  OWN TEXT. Groups that are stolen, with all that is free in them: plain mathematics.
-/
namespace Go.Proofs.YtffhpjjioefaeafDoor.Kit

/-- c types, from F on, are t. -/
def setR (ty : List Int) (F : Nat) (t : Int) : Nat → List Int
  | 0 => ty
  | c + 1 => (setR ty F t c).set (F + c) t
theorem setR_len (ty : List Int) (F : Nat) (t : Int) (c : Nat) : (setR ty F t c).length = ty.length := by
  induction c with
  | zero => rfl
  | succ c ih => simp [setR, ih]
/-- A block of the groups F to L is of type t. -/
def stealB (f F L t : Int) (b : Bk) : Bk := if F ≤ (b.a - f) / 8 ∧ (b.a - f) / 8 ≤ L then ⟨b.a, b.o, t⟩ else b
theorem stealB_a (f F L t : Int) (b : Bk) : (stealB f F L t b).a = b.a := by unfold stealB; split <;> rfl
theorem stealB_o (f F L t : Int) (b : Bk) : (stealB f F L t b).o = b.o := by unfold stealB; split <;> rfl
/-- The first i of them. -/
def stealK (f F L t : Int) (l : List Bk) (i : Nat) : List Bk := (l.take i).map (stealB f F L t) ++ l.drop i
theorem stealK_0 (f F L t : Int) (l : List Bk) : stealK f F L t l 0 = l := by simp [stealK]
theorem stealK_all (f F L t : Int) (l : List Bk) : stealK f F L t l l.length = l.map (stealB f F L t) := by simp [stealK]
theorem stealK_len (f F L t : Int) (l : List Bk) (i : Nat) : (stealK f F L t l i).length = l.length := by simp [stealK]; omega
theorem stealK_at (f F L t : Int) {l : List Bk} {i : Nat} (h : i < l.length) : (stealK f F L t l i).getD i .zero = l.getD i .zero := by
  unfold stealK
  rw [List.getD_eq_getElem?_getD, List.getD_eq_getElem?_getD, List.getElem?_append_right (by simp; omega)]
  simp [List.getElem?_drop, Nat.min_eq_left (Nat.le_of_lt h)]
theorem stealK_succ (f F L t : Int) {l : List Bk} {i : Nat} (h : i < l.length) {b : Bk} (hb : l.getD i .zero = b) : stealK f F L t l (i + 1) = (stealK f F L t l i).set i (stealB f F L t b) := by
  have hb' : l[i] = b := by rw [List.getD_eq_getElem?_getD, List.getElem?_eq_getElem h] at hb; exact hb
  unfold stealK
  rw [List.take_succ_eq_append_getElem h, List.map_append, List.set_append_right _ _ (by simp; omega)]
  have e : i - ((l.take i).map (stealB f F L t)).length = 0 := by simp; omega
  rw [e, List.drop_eq_getElem_cons h, List.set_cons_zero, hb']
  simp

end Go.Proofs.YtffhpjjioefaeafDoor.Kit

/-
  OWN TEXT. What is stolen may be: plain mathematics.
-/
namespace Go.Proofs.YtffhpjjioefaeafDoor.Kit

theorem steal_ahead (f F L t : Int) {l : List Bk} (h : l.Pairwise Ahead) : (l.map (stealB f F L t)).Pairwise Ahead := by
  refine List.pairwise_map.2 (h.imp ?_)
  intro x y hxy
  unfold Ahead besideP at *
  rw [stealB_a, stealB_o, stealB_a, stealB_o]
  exact hxy

theorem steal_in {f z F L t : Int} {l : List Bk} (ht : typeOk t) (h : AllIn f z l) : AllIn f z (l.map (stealB f F L t)) := by
  intro b hb
  obtain ⟨x, hx, rfl⟩ := List.mem_map.1 hb
  obtain ⟨h1, h2⟩ := h x hx
  rw [stealB_a, stealB_o]
  refine ⟨h1, ?_⟩
  unfold stealB
  split
  · exact ht
  · exact h2

theorem setR_ok {ty : List Int} {F : Nat} {t : Int} (ht : typeOk t) (h : ∀ i, i < ty.length → typeOk (ty.getD i 0)) (c : Nat) : ∀ i, i < (setR ty F t c).length → typeOk ((setR ty F t c).getD i 0) := by
  induction c with
  | zero => exact h
  | succ c ih =>
    intro i hi
    unfold setR at hi ⊢
    rw [List.length_set] at hi
    rw [List.getD_eq_getElem?_getD, List.getElem?_set]
    split
    · split
      · exact ht
      · exact absurd (by omega : F + c < (setR ty F t c).length) ‹_›
    · have := ih i hi
      rwa [List.getD_eq_getElem?_getD] at this

/-- A zone whose groups are stolen may be. -/
theorem steal_may {z : Zn} (h : ZMay z) (F : Nat) (L t : Int) (c : Nat) (ht : typeOk t) : ZMay ⟨z.f, z.t, z.free.map (stealB z.f F L t), setR z.types F t c⟩ := by
  obtain ⟨h1, h2⟩ := free_iff.1 h.free
  exact ⟨h.new, by rw [setR_len]; exact h.len, setR_ok ht h.ty c, free_iff.2 ⟨steal_in ht h1, steal_ahead _ _ _ _ h2⟩⟩

/-- A zone of which a block is taken may be. -/
theorem take_may {z : Zn} (h : ZMay z) (p q : List Bk) (b : Bk) (t o : Int) (ho : 0 ≤ o) (ht : typeOk t) (e : z.free = p ++ b :: q) : ZMay ⟨z.f, z.t, p ++ halvesL b.a t o (b.o - o).toNat ++ q, z.types⟩ := by
  have hf := h.free
  rw [e] at hf
  obtain ⟨h1, h2⟩ := free_iff.1 hf
  exact ⟨h.new, h.len, h.ty, free_iff.2 ⟨take_in p q b t o ho ht h.new.2.2.2.2 h1, take_ahead p q b t o ho h1 h2⟩⟩

end Go.Proofs.YtffhpjjioefaeafDoor.Kit

/-
  OWN TEXT. What a take leaves of a zone, and that it may be: plain mathematics.
-/
namespace Go.Proofs.YtffhpjjioefaeafDoor.Kit

/-- The groups of a block. -/
def grpF (z : Zn) (b : Bk) : Int := (b.a - z.f) / 8
def grpL (z : Zn) (b : Bk) : Int := (b.a + pw b.o - 1 - z.f) / 8

/-- Is the block stolen? -/
def steals (b : Bk) (t : Int) : Prop := b.t ≠ t ∧ 2 ≤ b.o
instance (b : Bk) (t : Int) : Decidable (steals b t) := by unfold steals; infer_instance

/-- The zone of which the block at place i has been stolen. -/
def stolenZ (z : Zn) (b : Bk) (t : Int) : Zn := ⟨z.f, z.t, z.free.map (stealB z.f (grpF z b) (grpL z b) t), setR z.types (grpF z b).toNat t ((grpL z b).toNat + 1 - (grpF z b).toNat)⟩

/-- The zone behind a take of an order, for a type, of the block at place i. -/
def takeZ (z : Zn) (o t : Int) (i : Nat) : Zn :=
  let b := z.free.getD i .zero
  if steals b t then
    let s := stolenZ z b t
    ⟨z.f, z.t, s.free.take i ++ (halvesL b.a t o (b.o - o).toNat ++ s.free.drop (i + 1)), s.types⟩
  else ⟨z.f, z.t, z.free.take i ++ (halvesL b.a b.t o (b.o - o).toNat ++ z.free.drop (i + 1)), z.types⟩

theorem fidx_in {g : Bk → Bool} {l : List Bk} (h : 0 ≤ fidx g l) : ∃ i : Nat, fidx g l = i ∧ i < l.length ∧ g (l.getD i .zero) = true := by
  induction l with
  | nil => simp [fidx] at h
  | cons b l ih =>
    by_cases hb : g b = true
    · exact ⟨0, by simp [fidx, hb], by simp, by simpa using hb⟩
    · by_cases hn : fidx g l < 0
      · simp [fidx, hb, hn] at h
      · obtain ⟨i, e, hi, hg⟩ := ih (by omega)
        refine ⟨i + 1, ?_, by simpa using hi, by simpa using hg⟩
        show (if g b = true then (0 : Int) else if fidx g l < 0 then -1 else fidx g l + 1) = _
        rw [if_neg hb, if_neg hn, e]
        rfl

theorem upI_in {l : List Bk} {t : Int} {n : Nat} {o : Int} (h : 0 ≤ upI l t n o) : ∃ i : Nat, upI l t n o = i ∧ i < l.length ∧ o ≤ (l.getD i .zero).o := by
  induction n generalizing o with
  | zero => simp [upI] at h
  | succ n ih =>
    unfold upI at h ⊢
    split at h
    · rename_i hf
      rw [if_pos hf]
      obtain ⟨i, e, hi, hg⟩ := fidx_in hf
      have := (of_decide_eq_true hg).1
      exact ⟨i, e, hi, by omega⟩
    · rename_i hf
      rw [if_neg hf]
      obtain ⟨i, e, hi, hg⟩ := ih h
      exact ⟨i, e, hi, by omega⟩

theorem dnI_in {l : List Bk} {u v o : Int} {n : Nat} (h : 0 ≤ dnI l u v o n) : ∃ i : Nat, dnI l u v o n = i ∧ i < l.length ∧ o ≤ (l.getD i .zero).o := by
  induction n with
  | zero => simp [dnI] at h
  | succ n ih =>
    unfold dnI at h ⊢
    split at h
    · rename_i hf
      rw [if_pos hf]
      obtain ⟨i, e, hi, hg⟩ := fidx_in hf
      have := (of_decide_eq_true hg).1
      exact ⟨i, e, hi, by omega⟩
    · rename_i hf
      rw [if_neg hf]
      split at h
      · rename_i hk
        rw [if_pos hk]
        obtain ⟨i, e, hi, hg⟩ := fidx_in hk
        have := (of_decide_eq_true hg).1
        exact ⟨i, e, hi, by omega⟩
      · rename_i hk
        rw [if_neg hk]
        exact ih h

theorem choose_in {l : List Bk} {o t : Int} (h : 0 ≤ chooseI l o t) : ∃ i : Nat, chooseI l o t = i ∧ i < l.length ∧ o ≤ (l.getD i .zero).o := by
  unfold chooseI at h ⊢
  split at h
  · rename_i hu
    rw [if_pos hu]
    exact upI_in hu
  · rename_i hu
    rw [if_neg hu]
    exact dnI_in h

theorem map_getD (f : Bk → Bk) {l : List Bk} {i : Nat} (h : i < l.length) : (l.map f).getD i .zero = f (l.getD i .zero) := by
  rw [List.getD_eq_getElem?_getD, List.getD_eq_getElem?_getD, List.getElem?_map, List.getElem?_eq_getElem h]
  rfl

theorem cut_at (l : List Bk) {i : Nat} (h : i < l.length) : l = l.take i ++ l.getD i .zero :: l.drop (i + 1) := by
  rw [List.getD_eq_getElem?_getD, List.getElem?_eq_getElem h]
  simp

/-- The stolen block has the type. -/
theorem stolen_self {z : Zn} {b : Bk} (t : Int) : stealB z.f (grpF z b) (grpL z b) t b = ⟨b.a, b.o, t⟩ := by
  have hp := pw_pos b.o
  unfold stealB grpF grpL
  rw [if_pos ⟨Int.le_refl _, by omega⟩]

theorem takeZ_may {z : Zn} (h : ZMay z) {o t : Int} (ho : 0 ≤ o) (ht : typeOk t) {i : Nat} (hi : i < z.free.length) (hb : typeOk (z.free.getD i .zero).t) (hf : z.f ≤ (z.free.getD i .zero).a) : ZMay (takeZ z o t i) := by
  unfold takeZ
  dsimp only
  split
  · have e : ((grpF z (z.free.getD i .zero)).toNat : Int) = grpF z (z.free.getD i .zero) := Int.toNat_of_nonneg (by unfold grpF; omega)
    have hs := steal_may h (grpF z (z.free.getD i .zero)).toNat (grpL z (z.free.getD i .zero)) t ((grpL z (z.free.getD i .zero)).toNat + 1 - (grpF z (z.free.getD i .zero)).toNat) ht
    rw [e] at hs
    have hc := cut_at (z.free.map (stealB z.f (grpF z (z.free.getD i .zero)) (grpL z (z.free.getD i .zero)) t)) (i := i) (by simpa using hi)
    rw [map_getD _ hi, stolen_self] at hc
    have := take_may hs _ _ _ t o ho ht hc
    simpa [stolenZ] using this
  · have := take_may h _ _ _ (z.free.getD i .zero).t o ho hb (cut_at z.free hi)
    simpa using this

end Go.Proofs.YtffhpjjioefaeafDoor.Kit

/-
  OWN TEXT. How many blocks have a page: plain mathematics.
-/
namespace Go.Proofs.YtffhpjjioefaeafDoor.Kit

/-- Is a page in a block? -/
def hit (a o p : Int) : Nat := if a ≤ p ∧ p < a + pw o then 1 else 0
/-- How many blocks have a page. -/
def cnt : List Bk → Int → Nat
  | [], _ => 0
  | b :: l, p => hit b.a b.o p + cnt l p

theorem cnt_append (l m : List Bk) (p : Int) : cnt (l ++ m) p = cnt l p + cnt m p := by
  induction l with
  | nil => simp [cnt]
  | cons b l ih => simp only [List.cons_append, cnt, ih]; omega
theorem cnt_one (b : Bk) (p : Int) : cnt [b] p = hit b.a b.o p := by simp [cnt]

theorem rise_ne {b : Bk} {l : List Bk} (h : (b :: l).Pairwise Ahead) : ∀ x ∈ l, x.a ≠ b.a := fun x hx => by
  have := ((List.pairwise_cons.1 h).1 x hx).1
  have := pw_pos b.o
  omega
theorem drop_same {l : List Bk} {a o : Int} (h : ∀ x ∈ l, x.a ≠ a) : dropB l a o = l := by
  unfold dropB
  rw [List.filter_eq_self]
  intro b hb
  have : isB a o b = false := decide_eq_false (fun g => h b hb g.1)
  rw [this]; rfl

theorem cnt_drop {l : List Bk} (hl : l.Pairwise Ahead) {a o : Int} (h : hasB l a o = true) (p : Int) : cnt l p = cnt (dropB l a o) p + hit a o p := by
  induction l with
  | nil => simp [hasB] at h
  | cons b l ih =>
    by_cases hb : isB a o b = true
    · obtain ⟨e1, e2⟩ := of_decide_eq_true hb
      have e : dropB (b :: l) a o = dropB l a o := by unfold dropB; rw [List.filter_cons]; simp [hb]
      rw [e, drop_same (fun x hx => by rw [← e1]; exact rise_ne hl x hx)]
      simp only [cnt, e1, e2]
      omega
    · have hb' : isB a o b = false := by simpa using hb
      have e : dropB (b :: l) a o = b :: dropB l a o := by unfold dropB; rw [List.filter_cons]; simp [hb']
      have h' : hasB l a o = true := by simpa [hasB, hb'] using h
      rw [e]
      simp only [cnt, ih (List.pairwise_cons.1 hl).2 h']
      omega

theorem cnt_add (l : List Bk) (b : Bk) (p : Int) : cnt (addB l b) p = cnt l p + hit b.a b.o p := by
  induction l with
  | nil => simp [addB, cnt]
  | cons x l ih =>
    unfold addB
    split
    · simp only [cnt]; omega
    · simp only [cnt, ih]; omega

theorem hit_join {a o : Int} (h0 : 0 ≤ o) (h4 : o < 4) (hm : a % pw o = 0) (p : Int) : (if besideA a o < a then besideA a o else a) % pw (o + 1) = 0 ∧ hit (if besideA a o < a then besideA a o else a) (o + 1) p = hit a o p + hit (besideA a o) o p := by
  obtain ⟨e, h | h⟩ := beside_cases h0 h4 hm
  · have hp := pw_pos o
    rw [h.2, if_neg (by omega)]
    refine ⟨h.1, ?_⟩
    unfold hit
    rw [e]
    repeat' split
    all_goals omega
  · have hp := pw_pos o
    rw [h.2.1, if_pos (by omega)]
    refine ⟨?_, ?_⟩
    · have h3 := h.2.2
      rw [e] at h3 ⊢
      have := Int.emod_add_mul_ediv a (2 * pw o)
      rw [h3] at this
      have e2 : a - pw o = 2 * pw o * (a / (2 * pw o)) := by omega
      rw [e2]
      exact Int.mul_emod_right _ _
    · unfold hit
      rw [e]
      repeat' split
      all_goals omega

theorem drop_ahead {l : List Bk} (h : l.Pairwise Ahead) (a o : Int) : (dropB l a o).Pairwise Ahead := List.Pairwise.filter _ h

theorem cnt_go : ∀ (n : Nat) (l : List Bk) (a o : Int), (4 - o).toNat = n → 0 ≤ o → a % pw o = 0 → l.Pairwise Ahead → ∀ p, cnt (backGo n l a o).1 p + hit (backGo n l a o).2.1 (backGo n l a o).2.2 p = cnt l p + hit a o p := by
  intro n
  induction n with
  | zero => intro l a o _ _ _ _ p; rfl
  | succ n ih =>
    intro l a o hn h0 hm hl p
    unfold backGo
    split
    · rename_i hb
      obtain ⟨j1, j2⟩ := hit_join h0 (by omega) hm p
      rw [ih _ _ _ (by omega) (by omega) j1 (drop_ahead hl _ _) p, j2, cnt_drop hl hb p]
      omega
    · rfl

theorem cnt_back {z : Zn} {a o : Int} (h : z.free.Pairwise Ahead) (h0 : 0 ≤ o) (hm : a % pw o = 0) (p : Int) : cnt (backZ z a o).free p = cnt z.free p + hit a o p := by
  show cnt (addB _ _) p = _
  rw [cnt_add]
  exact cnt_go (4 - o).toNat z.free a o rfl h0 hm h p

theorem cnt_halves (a t o : Int) (h0 : 0 ≤ o) (m : Nat) (p : Int) : cnt (halvesL a t o m) p + hit a o p = hit a (o + m) p := by
  induction m with
  | zero => simp [halvesL, cnt]
  | succ m ih =>
    have e : pw (o + ((m + 1 : Nat) : Int)) = 2 * pw (o + m) := by
      rw [show o + ((m + 1 : Nat) : Int) = o + m + 1 by omega]
      exact pw_succ _ (by omega)
    have hp := pw_pos (o + m)
    simp only [halvesL, cnt_append, cnt_one]
    have k : hit a (o + ((m + 1 : Nat) : Int)) p = hit a (o + m) p + hit (a + pw (o + m)) (o + m) p := by
      unfold hit
      rw [e]
      repeat' split
      all_goals omega
    omega

theorem cnt_steal (f F L t : Int) (l : List Bk) (p : Int) : cnt (l.map (stealB f F L t)) p = cnt l p := by
  induction l with
  | nil => rfl
  | cons b l ih => simp only [List.map_cons, cnt, ih, stealB_a, stealB_o]

theorem cnt_put {l h : List Bk} {i : Nat} (hi : i < l.length) {o : Int} (p : Int) (hh : cnt h p + hit (l.getD i .zero).a o p = hit (l.getD i .zero).a (l.getD i .zero).o p) :
    cnt (l.take i ++ (h ++ l.drop (i + 1))) p + hit (l.getD i .zero).a o p = cnt l p := by
  have e : cnt l p = cnt (l.take i) p + (hit (l.getD i .zero).a (l.getD i .zero).o p + cnt (l.drop (i + 1)) p) := by
    conv => lhs; rw [cut_at l hi]
    rw [cnt_append]
    rfl
  rw [e, cnt_append, cnt_append]
  omega

theorem cnt_take {z : Zn} {o t : Int} {i : Nat} (hi : i < z.free.length) (h0 : 0 ≤ o) (ho : o ≤ (z.free.getD i .zero).o) (p : Int) : cnt (takeZ z o t i).free p + hit (z.free.getD i .zero).a o p = cnt z.free p := by
  have e : o + (((z.free.getD i .zero).o - o).toNat : Int) = (z.free.getD i .zero).o := by omega
  have hh : ∀ u, cnt (halvesL (z.free.getD i .zero).a u o ((z.free.getD i .zero).o - o).toNat) p + hit (z.free.getD i .zero).a o p = hit (z.free.getD i .zero).a (z.free.getD i .zero).o p := fun u => by
    rw [cnt_halves _ _ _ h0, e]
  unfold takeZ
  dsimp only
  split
  · have k := cnt_put (l := z.free.map (stealB z.f (grpF z (z.free.getD i .zero)) (grpL z (z.free.getD i .zero)) t)) (h := halvesL (z.free.getD i .zero).a t o ((z.free.getD i .zero).o - o).toNat) (i := i) (by simpa using hi) (o := o) p (by rw [map_getD _ hi, stolen_self]; exact hh t)
    rw [map_getD _ hi, stolen_self, cnt_steal] at k
    exact k
  · exact cnt_put hi p (hh _)

theorem cnt_ge {l : List Bk} {i : Nat} (hi : i < l.length) (p : Int) : hit (l.getD i .zero).a (l.getD i .zero).o p ≤ cnt l p := by
  rw [cut_at l hi, cnt_append]
  simp only [cnt]
  have e : (l.take i ++ l.getD i .zero :: l.drop (i + 1)).getD i .zero = l.getD i .zero := by rw [← cut_at l hi]
  rw [e]
  omega

/-- A block whose pages are in no other one overlaps none. -/
theorem no_ovl {l : List Bk} {a o : Int} (h : ∀ p, cnt l p + hit a o p ≤ 1) : ¬ ovlP l a o := by
  rintro ⟨i, hi, h1, h2⟩
  have hp := pw_pos o
  have hq := pw_pos (l.getD i .zero).o
  by_cases c : a ≤ (l.getD i .zero).a
  · have k := h (l.getD i .zero).a
    have g := cnt_ge hi (l.getD i .zero).a
    have e1 : hit (l.getD i .zero).a (l.getD i .zero).o (l.getD i .zero).a = 1 := if_pos ⟨by omega, by omega⟩
    have e2 : hit a o (l.getD i .zero).a = 1 := if_pos ⟨c, h1⟩
    omega
  · have k := h a
    have g := cnt_ge hi a
    have e1 : hit (l.getD i .zero).a (l.getD i .zero).o a = 1 := if_pos ⟨by omega, h2⟩
    have e2 : hit a o a = 1 := if_pos ⟨by omega, by omega⟩
    omega

/-- Pages that come back one by one. -/
theorem give_cnt : ∀ (n : Nat) (z : Zn) (a : Int), ZMay z → z.f ≤ a → a + n ≤ z.t → (∀ p, a ≤ p → cnt z.free p = 0) →
    ∃ Y, giveK n z a = some Y ∧ ZMay Y ∧ Y.f = z.f ∧ Y.t = z.t ∧ Y.types = z.types ∧ ∀ p, cnt Y.free p = cnt z.free p + (if a ≤ p ∧ p < a + n then 1 else 0) := by
  intro n
  induction n with
  | zero =>
    intro z a hM _ _ _
    refine ⟨z, rfl, hM, rfl, rfl, rfl, fun p => ?_⟩
    rw [if_neg (by omega)]
    rfl
  | succ n ih =>
    intro z a hM h1 h2 h3
    have hin := page_in (z := z) (p := a) h1 (by omega)
    have hah := (free_iff.1 hM.free).2
    have hno : ¬ ovlP z.free a 0 := by
      rintro ⟨i, hi, g1, g2⟩
      rw [pw_0] at g1
      have hq := pw_pos (z.free.getD i .zero).o
      have := h3 ((z.free.getD i .zero).a + pw (z.free.getD i .zero).o - 1) (by omega)
      have g := cnt_ge hi ((z.free.getD i .zero).a + pw (z.free.getD i .zero).o - 1)
      have e1 : hit (z.free.getD i .zero).a (z.free.getD i .zero).o ((z.free.getD i .zero).a + pw (z.free.getD i .zero).o - 1) = 1 := if_pos ⟨by omega, by omega⟩
      omega
    rw [give_some hno]
    have hc : ∀ p, cnt (backZ z a 0).free p = cnt z.free p + hit a 0 p := fun p => cnt_back hah (by omega) (by rw [pw_0]; omega) p
    obtain ⟨Y, e, k1, k2, k3, k4, k5⟩ := ih (backZ z a 0) (a + 1) (backZ_may hM hin hno) (by show z.f ≤ _; omega) (by show _ ≤ z.t; omega) (fun p hp => by
      rw [hc, h3 p (by omega)]
      unfold hit
      rw [pw_0, if_neg (by omega)])
    refine ⟨Y, e, k1, k2, k3, k4, fun p => ?_⟩
    rw [k5, hc]
    unfold hit
    rw [pw_0]
    repeat' split
    all_goals omega

end Go.Proofs.YtffhpjjioefaeafDoor.Kit

/-
  OWN TEXT. A zone from which blocks were taken, and to which some came back: plain mathematics.
-/
namespace Go.Proofs.YtffhpjjioefaeafDoor.Kit

/-- The zone, and the blocks that are away: no page is in two, all others are free. -/
structure ZI (z : Zn) (aw : List Bk) : Prop where
  may : ZMay z
  f : z.f = 16
  t : z.t = 112
  all : ∀ b ∈ aw, blkIn 16 112 b.a b.o
  cnt : ∀ p, cnt z.free p + cnt aw p = if 18 ≤ p ∧ p < 108 then 1 else 0

theorem ZI.sum {z : Zn} {aw : List Bk} (h : ZI z aw) (p : Int) : Kit.cnt z.free p + Kit.cnt aw p ≤ 1 := by
  rw [h.cnt p]
  split <;> omega

theorem getD_mem {l : List Bk} {k : Nat} (h : k < l.length) : l.getD k .zero ∈ l := by
  rw [List.getD_eq_getElem?_getD, List.getElem?_eq_getElem h]
  exact List.getElem_mem _

theorem cnt_erase {l : List Bk} {k : Nat} (h : k < l.length) (p : Int) : cnt (l.eraseIdx k) p + hit (l.getD k .zero).a (l.getD k .zero).o p = cnt l p := by
  have e : cnt l p = cnt (l.take k) p + (hit (l.getD k .zero).a (l.getD k .zero).o p + cnt (l.drop (k + 1)) p) := by
    conv => lhs; rw [cut_at l h]
    rw [cnt_append]
    rfl
  rw [e, List.eraseIdx_eq_take_drop_succ, cnt_append]
  omega

theorem zi_back {z : Zn} {aw : List Bk} (h : ZI z aw) {k : Nat} (hk : k < aw.length) {a o t : Int} (hb : aw.getD k .zero = ⟨a, o, t⟩) :
    blkIn z.f z.t a o ∧ ¬ ovlP z.free a o ∧ ZI (backZ z a o) (aw.eraseIdx k) := by
  have hin := h.all _ (getD_mem hk)
  rw [hb] at hin
  dsimp only at hin
  have hin' : blkIn z.f z.t a o := by rw [h.f, h.t]; exact hin
  have hc : ∀ p, cnt (aw.eraseIdx k) p + hit a o p = cnt aw p := fun p => by
    have := cnt_erase hk p
    rw [hb] at this
    exact this
  have hno : ¬ ovlP z.free a o := no_ovl fun p => by have := h.sum p; have := hc p; omega
  have hah := (free_iff.1 h.may.free).2
  refine ⟨hin', hno, backZ_may h.may hin' hno, h.f, h.t, fun b hb => h.all b (List.mem_of_mem_eraseIdx hb), fun p => ?_⟩
  rw [cnt_back hah hin.1.1 hin.2.2.2 p, ← h.cnt p, ← hc p]
  omega

theorem mod_down {a o b : Int} (hb : ordOk b) (h0 : 0 ≤ o) (h1 : o ≤ b) (h : a % pw b = 0) : a % pw o = 0 := by
  rcases ord_cases hb with ⟨rfl, e⟩ | ⟨rfl, e⟩ | ⟨rfl, e⟩ | ⟨rfl, e⟩ | ⟨rfl, e⟩ <;> rw [e] at h <;>
    rcases ord_cases (o := o) ⟨h0, by omega⟩ with ⟨rfl, e'⟩ | ⟨rfl, e'⟩ | ⟨rfl, e'⟩ | ⟨rfl, e'⟩ | ⟨rfl, e'⟩ <;> rw [e'] <;> omega

theorem zi_take {z : Zn} {aw : List Bk} (h : ZI z aw) {o t : Int} (ho : ordOk o) (ht : typeOk t) {i : Nat} (hC : chooseI z.free o t = i) :
    ZI (takeZ z o t i) (aw ++ [⟨(z.free.getD i .zero).a, o, 0⟩]) := by
  obtain ⟨j, e, hj, hob⟩ := choose_in (l := z.free) (o := o) (t := t) (by omega)
  obtain rfl : j = i := by omega
  obtain ⟨⟨b1, a1, a2, a3⟩, b2, _⟩ := freeOk_at h.may.free hj rfl
  have hM := takeZ_may h.may ho.1 ht hj b2 a1
  have hf : (takeZ z o t j).f = z.f := by unfold takeZ; dsimp only; split <;> rfl
  have htt : (takeZ z o t j).t = z.t := by unfold takeZ; dsimp only; split <;> rfl
  refine ⟨hM, hf.trans h.f, htt.trans h.t, fun b hb => ?_, fun p => ?_⟩
  · rcases List.mem_append.1 hb with hb | hb
    · exact h.all b hb
    · rw [List.mem_singleton] at hb
      subst hb
      dsimp only
      rw [h.f] at a1
      rw [h.t] at a2
      exact ⟨ho, a1, a2, mod_down b1 ho.1 hob a3⟩
  · rw [cnt_append, cnt_one, ← h.cnt p, ← cnt_take (t := t) hj ho.1 hob p]
    dsimp only
    omega

/-- The zone at the beginning. -/
def firstZ : Option Zn := giveK 90 (newZ 16 112) 18

theorem newZ_may {f t : Int} (h : newOk f t) : ZMay (newZ f t) := by
  obtain ⟨h1, h2, h3, h4, h5⟩ := h
  refine ⟨⟨h1, h2, h3, h4, h5⟩, ?_, ?_, trivial⟩
  · show 8 * ((newTypes f t).length : Int) = t - f
    unfold newTypes
    rw [List.length_replicate]
    omega
  · intro i hi
    have hi' : i < (newTypes f t).length := hi
    show typeOk ((newTypes f t).getD i 0)
    unfold newTypes at hi' ⊢
    rw [List.length_replicate] at hi'
    rw [List.getD_eq_getElem?_getD, List.getElem?_replicate, if_pos hi']
    exact ⟨by decide, by decide⟩

theorem zi_first : ∃ Y, firstZ = some Y ∧ ZI Y [] := by
  have hn : newOk 16 112 := ⟨by omega, by omega, by omega, by omega, by omega⟩
  obtain ⟨Y, e, k1, k2, k3, _, k5⟩ := give_cnt 90 (newZ 16 112) 18 (newZ_may hn) (by show (16 : Int) ≤ 18; omega) (by show (18 : Int) + (90 : Nat) ≤ 112; omega) (fun p _ => rfl)
  refine ⟨Y, e, k1, k2, k3, fun b hb => by simp at hb, fun p => ?_⟩
  rw [k5]
  have e0 : cnt (newZ 16 112).free p = 0 := rfl
  have e1 : cnt ([] : List Bk) p = 0 := rfl
  rw [e0, e1]
  simp only [Nat.zero_add, Nat.add_zero]
  split <;> split <;> omega

end Go.Proofs.YtffhpjjioefaeafDoor.Kit

/-
  OWN TEXT. Contracts of the code: buddy's small functions.
-/
namespace Go.Proofs.YtffhpjjioefaeafDoor
open Go Go.RowKit Go.Proofs.YtffhpjjioefaeafDoor.Kit

set_option maxHeartbeats 1000000 in
theorem isType_any (w : World) (x : Int) :
    Calls Tryd.prog 30 #[.int .i64 x] w fun e w' => e = .returned (.bool (inB x 0 2)) ∧ w = w' := by
  by_cases h1 : 0 ≤ x
  · by_cases h2 : x < 3
    · have HR : Hid (inB x 0 2 = true) := inB_t (by omega)
      go_enter Tryd.func30, Tryd.ntmps30
      go_wp2
      go_ret
      exact ⟨ret_bool HR.out.symm, rfl⟩
    · have HR : Hid (inB x 0 2 = false) := inB_f (by omega)
      go_enter Tryd.func30, Tryd.ntmps30
      go_wp2
      go_ret
      exact ⟨ret_bool HR.out.symm, rfl⟩
  · have HR : Hid (inB x 0 2 = false) := inB_f (by omega)
    go_enter Tryd.func30, Tryd.ntmps30
    go_wp2
    go_ret
    exact ⟨ret_bool HR.out.symm, rfl⟩

set_option maxHeartbeats 1000000 in
theorem isOrder_any (w : World) (x : Int) :
    Calls Tryd.prog 29 #[.int .i64 x] w fun e w' => e = .returned (.bool (inB x 0 4)) ∧ w = w' := by
  by_cases h1 : 0 ≤ x
  · by_cases h2 : x ≤ 4
    · have HR : Hid (inB x 0 4 = true) := inB_t (by omega)
      go_enter Tryd.func29, Tryd.ntmps29
      go_wp2
      go_ret
      exact ⟨ret_bool HR.out.symm, rfl⟩
    · have HR : Hid (inB x 0 4 = false) := inB_f (by omega)
      go_enter Tryd.func29, Tryd.ntmps29
      go_wp2
      go_ret
      exact ⟨ret_bool HR.out.symm, rfl⟩
  · have HR : Hid (inB x 0 4 = false) := inB_f (by omega)
    go_enter Tryd.func29, Tryd.ntmps29
    go_wp2
    go_ret
    exact ⟨ret_bool HR.out.symm, rfl⟩

set_option maxHeartbeats 1000000 in
theorem isPage_any (w : World) (f t : Int) (fo to_ : Option Addr) (fn fc tn tc : Nat) (a : Int) :
    Calls Tryd.prog 36 #[.agg #[.int .i64 f, .int .i64 t, .slice fo fn fc, .slice to_ tn tc], .int .i64 a] w fun e w' => e = .returned (.bool (inB a f (t - 1))) ∧ Below w.heap.size w w' := by
  have hb1 := below_box w (.cells #[.int .i64 f, .int .i64 t, .slice fo fn fc, .slice to_ tn tc] 26)
  by_cases h1 : f ≤ a
  · by_cases h2 : a < t
    · have HR : Hid (inB a f (t - 1) = true) := inB_t (by omega)
      go_enter Tryd.func36, Tryd.ntmps36
      go_wp2
      go_ret
      exact ⟨ret_bool HR.out.symm, hb1⟩
    · have HR : Hid (inB a f (t - 1) = false) := inB_f (by omega)
      go_enter Tryd.func36, Tryd.ntmps36
      go_wp2
      go_ret
      exact ⟨ret_bool HR.out.symm, hb1⟩
  · have HR : Hid (inB a f (t - 1) = false) := inB_f (by omega)
    go_enter Tryd.func36, Tryd.ntmps36
    go_wp2
    go_ret
    exact ⟨ret_bool HR.out.symm, hb1⟩

set_option maxHeartbeats 1000000 in
theorem behind_any (w : World) (a o x : Int) (ho : ordOk o) (h0 : 0 ≤ a) (h1 : a ≤ 256) :
    Calls Tryd.prog 42 #[.agg #[.int .i64 a, .int .i64 o, .int .i64 x]] w fun e w' => e = .returned (.int .i64 (a + pw o)) ∧ Below w.heap.size w w' := by
  have hb1 := below_box w (.cells #[.int .i64 a, .int .i64 o, .int .i64 x] 32)
  rcases ord_cases ho with ⟨rfl, e⟩ | ⟨rfl, e⟩ | ⟨rfl, e⟩ | ⟨rfl, e⟩ | ⟨rfl, e⟩
  all_goals
    rw [e]
    clear e ho
    go_enter Tryd.func42, Tryd.ntmps42
    go_wp2
    go_quiet (fail)
    go_wp2
    go_ret
    exact ⟨rfl, below_drewN hb1 _⟩

set_option maxHeartbeats 1000000 in
/-- May a block be in the zone, as the code looks. -/
theorem blkMay_any (w : World) (f t : Int) (fo to_ : Option Addr) (fn fc tn tc : Nat) (a o : Int) (h : newOk f t) :
    Calls Tryd.prog 26 #[.agg #[.int .i64 f, .int .i64 t, .slice fo fn fc, .slice to_ tn tc], .int .i64 a, .int .i64 o] w fun e w' => e = .returned (.bool (blkB f t a o)) ∧ Below w.heap.size w w' := by
  obtain ⟨h1, h2, h3, h4, h5⟩ := h
  have hb1 := below_box w (.cells #[.int .i64 f, .int .i64 t, .slice fo fn fc, .slice to_ tn tc] 26)
  have Z0 := zbox_new w (.int .i64 f) (.int .i64 t) (.slice fo fn fc) (.slice to_ tn tc) 26
  have c0 := Z0.c0
  have c1 := Z0.c1
  have c2 := Z0.c2
  have c3 := Z0.c3
  by_cases p1 : 0 ≤ o ∧ o ≤ 4
  · have e1 : Hid (inB o 0 4 = true) := inB_t p1
    by_cases p2 : f ≤ a ∧ a ≤ t - 1
    · have e2 : Hid (inB a f (t - 1) = true) := inB_t p2
      obtain ⟨A, rfl⟩ : ∃ A : Nat, a = A := ⟨a.toNat, by omega⟩
      obtain ⟨r, hr⟩ : ∃ r, blkB f t (A : Int) o = r := ⟨_, rfl⟩
      rw [hr]
      rcases ord_cases p1 with ⟨rfl, e⟩ | ⟨rfl, e⟩ | ⟨rfl, e⟩ | ⟨rfl, e⟩ | ⟨rfl, e⟩
      all_goals
        unfold blkB at hr
        rw [e1.out, e2.out, e, Bool.true_and, Bool.true_and] at hr
        have HR : Hid _ := hr
        clear hr e p1
        go_enter Tryd.func26, Tryd.ntmps26
        go_wp2_with fail
        go_at_call 29
        refine (isOrder_any _ _).mono ?_
        rintro e w' ⟨rfl, rfl⟩
        rw [e1.out]
        go_wp2_with fail
        go_at_call 36
        refine (isPage_any _ _ _ _ _ _ _ _ _ _).mono ?_
        rintro e w2 ⟨rfl, hb2⟩
        rw [e2.out]
        have hB := hb1.trans (hb2.mono hb1.size)
        clear c0 c1 c2 c3 Z0
        go_wp2
        go_ret
        exact ⟨ret_bool (by first | exact HR.out | (rw [← HR.out]; simp)), hB⟩
    · have e2 : Hid (inB a f (t - 1) = false) := inB_f p2
      have HR : Hid (blkB f t a o = false) := by show _ = _; unfold blkB; rw [e1.out, e2.out]; rfl
      go_enter Tryd.func26, Tryd.ntmps26
      go_wp2_with fail
      go_at_call 29
      refine (isOrder_any _ _).mono ?_
      rintro e w' ⟨rfl, rfl⟩
      rw [e1.out]
      go_wp2_with fail
      go_at_call 36
      refine (isPage_any _ _ _ _ _ _ _ _ _ _).mono ?_
      rintro e w2 ⟨rfl, hb2⟩
      rw [e2.out]
      have hB := hb1.trans (hb2.mono hb1.size)
      clear c0 c1 c2 c3 Z0
      go_wp2
      go_ret
      exact ⟨ret_bool HR.out.symm, hB⟩
  · have e1 : Hid (inB o 0 4 = false) := inB_f p1
    have HR : Hid (blkB f t a o = false) := by show _ = _; unfold blkB; rw [e1.out]; rfl
    go_enter Tryd.func26, Tryd.ntmps26
    go_wp2_with fail
    go_at_call 29
    refine (isOrder_any _ _).mono ?_
    rintro e w' ⟨rfl, rfl⟩
    rw [e1.out]
    go_wp2
    go_ret
    exact ⟨ret_bool HR.out.symm, hb1⟩

theorem xor_0 : ∀ a : Nat, a < 256 → bits BinOp.xor IntKind.i64 (a : Int) 1 = besideA a 0 := by decide +kernel
theorem xor_1 : ∀ a : Nat, a < 256 → a % 2 = 0 → bits BinOp.xor IntKind.i64 (a : Int) 2 = besideA a 1 := by decide +kernel
theorem xor_2 : ∀ a : Nat, a < 256 → a % 4 = 0 → bits BinOp.xor IntKind.i64 (a : Int) 4 = besideA a 2 := by decide +kernel
theorem xor_3 : ∀ a : Nat, a < 256 → a % 8 = 0 → bits BinOp.xor IntKind.i64 (a : Int) 8 = besideA a 3 := by decide +kernel

set_option maxHeartbeats 1000000 in
theorem beside_any (w : World) (a : Nat) (o : Int) (ho : ordOk o) (h4 : o < 4) (h1 : a < 256) (hm : (a : Int) % pw o = 0) :
    Calls Tryd.prog 52 #[.int .i64 a, .int .i64 o] w fun e w' => e = .returned (.int .i64 (besideA a o)) ∧ w = w' := by
  rcases ord_cases ho with ⟨rfl, e⟩ | ⟨rfl, e⟩ | ⟨rfl, e⟩ | ⟨rfl, e⟩ | ⟨rfl, e⟩
  · have HX : Hid (bits BinOp.xor IntKind.i64 (a : Int) 1 = besideA a 0) := xor_0 a h1
    clear e ho hm
    go_enter Tryd.func52, Tryd.ntmps52
    go_wp2
    go_ret
    exact ⟨congrArg (fun v => Ending.returned (.int .i64 v)) HX.out, rfl⟩
  · rw [e] at hm
    have HX : Hid (bits BinOp.xor IntKind.i64 (a : Int) 2 = besideA a 1) := xor_1 a h1 (by omega)
    clear e ho hm
    go_enter Tryd.func52, Tryd.ntmps52
    go_wp2
    go_ret
    exact ⟨congrArg (fun v => Ending.returned (.int .i64 v)) HX.out, rfl⟩
  · rw [e] at hm
    have HX : Hid (bits BinOp.xor IntKind.i64 (a : Int) 4 = besideA a 2) := xor_2 a h1 (by omega)
    clear e ho hm
    go_enter Tryd.func52, Tryd.ntmps52
    go_wp2
    go_ret
    exact ⟨congrArg (fun v => Ending.returned (.int .i64 v)) HX.out, rfl⟩
  · rw [e] at hm
    have HX : Hid (bits BinOp.xor IntKind.i64 (a : Int) 8 = besideA a 3) := xor_3 a h1 (by omega)
    clear e ho hm
    go_enter Tryd.func52, Tryd.ntmps52
    go_wp2
    go_ret
    exact ⟨congrArg (fun v => Ending.returned (.int .i64 v)) HX.out, rfl⟩
  · omega

/-- Two blocks are beside each other, as the code looks. -/
def areB (p b : Bk) : Bool := decide (p.o = b.o) && (decide (p.o < 4) && decide (b.a = besideA p.a p.o))
theorem areB_iff {p b : Bk} (h : p.a + pw p.o ≤ b.a) : areB p b = true ↔ besideP p b := by
  unfold areB besideP besideA
  simp only [Bool.and_eq_true, decide_eq_true_eq]
  have := pw_pos p.o
  constructor
  · rintro ⟨h1, h2, h3⟩
    rw [← h1]
    split at h3
    · exact ⟨h2, rfl, h3.symm, by assumption⟩
    · omega
  · rintro ⟨h1, h2, h3, h4⟩
    rw [← h2] at h1 h3 h4
    rw [if_pos h4]
    exact ⟨h2, h1, h3.symm⟩

set_option maxHeartbeats 1000000 in
theorem areBeside_any (w : World) (p b : Bk) (hp : ordOk p.o) (h0 : 0 ≤ p.a) (h1 : p.a < 256) (hm : p.a % pw p.o = 0) :
    Calls Tryd.prog 51 #[.agg #[.int .i64 p.a, .int .i64 p.o, .int .i64 p.t], .agg #[.int .i64 b.a, .int .i64 b.o, .int .i64 b.t]] w fun e w' => e = .returned (.bool (areB p b)) ∧ Below w.heap.size w w' := by
  obtain ⟨pa, po, pt⟩ := p
  obtain ⟨ba, bo, bt⟩ := b
  dsimp only at hp h0 h1 hm ⊢
  obtain ⟨A, rfl⟩ : ∃ A : Nat, pa = A := ⟨pa.toNat, by omega⟩
  have hb2 : Below w.heap.size w ((w.alloc (.cells #[.int .i64 A, .int .i64 po, .int .i64 pt] 32)).alloc (.cells #[.int .i64 ba, .int .i64 bo, .int .i64 bt] 32)) := ((Below.refl _ _).alloc (Nat.le_refl _) _).alloc (by simp) _
  obtain ⟨r, hr⟩ : ∃ r, areB ⟨A, po, pt⟩ ⟨ba, bo, bt⟩ = r := ⟨_, rfl⟩
  rw [hr]
  have HR : Hid (areB ⟨A, po, pt⟩ ⟨ba, bo, bt⟩ = r) := hr
  clear hr
  by_cases q1 : po = bo
  · subst q1
    by_cases q2 : po < 4
    · have HC := fun W => (beside_any W A po hp q2 (by omega) hm).mono (fun e w' (g : e = .returned (.int .i64 (besideA A po)) ∧ W = w') => (show e = .returned (.int .i64 (besideA A po)) ∧ w' = W from ⟨g.1, g.2.symm⟩))
      have q2' : decide (po < 4) = true := decide_eq_true q2
      have HR2 : Hid (decide (ba = besideA A po) = r) := by show _ = _; rw [← HR.out]; unfold areB; simp [q2]
      obtain ⟨X, hX⟩ : ∃ X, besideA A po = X := ⟨_, rfl⟩
      rw [hX] at HC HR2
      clear hX HR hm
      go_enter Tryd.func51, Tryd.ntmps51
      go_wp2
      go_quiet ((go_at_call 52; exact Calls.quiet_of_same (HC _)))
      clear HC
      go_wp2
      go_ret
      exact ⟨ret_bool HR2.out, below_drewN hb2 _⟩
    · have HR2 : Hid (false = r) := by show _ = _; rw [← HR.out]; unfold areB; simp [q2]
      have q2' : decide (po < 4) = false := decide_eq_false q2
      clear HR hm
      go_enter Tryd.func51, Tryd.ntmps51
      go_wp2
      go_quiet (fail)
      go_wp2
      go_ret
      exact ⟨ret_bool HR2.out, below_drewN hb2 _⟩
  · have HR2 : Hid (false = r) := by show _ = _; rw [← HR.out]; unfold areB; simp [q1]
    have q1' : (po == bo) = false := by simpa using q1
    clear HR hm q1
    go_enter Tryd.func51, Tryd.ntmps51
    go_wp2
    go_quiet (fail)
    go_wp2
    go_ret
    exact ⟨ret_bool HR2.out, below_drewN hb2 _⟩

end Go.Proofs.YtffhpjjioefaeafDoor
