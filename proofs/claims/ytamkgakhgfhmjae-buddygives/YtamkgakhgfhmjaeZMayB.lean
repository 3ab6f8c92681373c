/-
  OWN TEXT. A zone that may be stays one when a block comes back: plain mathematics.
-/
import Derived.Test.YtamkgakhgfhmjaeZPure3
import Derived.Test.YtamkgakhgfhmjaeZOvl
namespace Go.Proofs.Ytamkgakhgfhmjae.Kit

/-- The first one ends ahead of the second one, and they are not beside each other. -/
def Ahead (p q : Bk) : Prop := p.a + pw p.o ≤ q.a ∧ ¬ besideP p q
/-- Each of them may be in the zone. -/
def AllIn (f t : Int) (l : List Bk) : Prop := ∀ b ∈ l, blkIn f t b.a b.o ∧ typeOk b.t

theorem freeOk_pw {f t lo : Int} {pv : Option Bk} {l : List Bk} (h : FreeOk f t lo pv l) : AllIn f t l ∧ (∀ b ∈ l, lo ≤ b.a) ∧ l.Pairwise Ahead := by
  induction l generalizing lo pv with
  | nil => exact ⟨fun b hb => by simp at hb, fun b hb => by simp at hb, List.Pairwise.nil⟩
  | cons b l ih =>
    obtain ⟨h1, h2, h3, _, h5⟩ := h
    obtain ⟨i1, i2, i3⟩ := ih h5
    have hp := pw_pos b.o
    refine ⟨fun x hx => ?_, fun x hx => ?_, List.Pairwise.cons (fun x hx => ⟨i2 x hx, ?_⟩) i3⟩
    · rcases List.mem_cons.1 hx with rfl | hx
      · exact ⟨h1, h2⟩
      · exact i1 x hx
    · rcases List.mem_cons.1 hx with rfl | hx
      · exact h3
      · have := i2 x hx; omega
    · cases l with
      | nil => simp at hx
      | cons c l =>
        obtain ⟨_, _, k3, k4, _⟩ := h5
        rcases List.mem_cons.1 hx with rfl | hx
        · exact k4 b rfl
        · have := (List.pairwise_cons.1 i3).1 x hx
          rintro ⟨_, e2, e3, _⟩
          have := this.1
          have hc := pw_pos c.o
          rw [← e2] at e3
          omega

theorem freeOk_of {f t lo : Int} {pv : Option Bk} {l : List Bk} (h1 : AllIn f t l) (h2 : ∀ b ∈ l, lo ≤ b.a) (h3 : l.Pairwise Ahead) (h4 : ∀ p, pv = some p → ∀ b ∈ l, ¬ besideP p b) : FreeOk f t lo pv l := by
  induction l generalizing lo pv with
  | nil => trivial
  | cons b l ih =>
    have hb := h1 b (by simp)
    have hp := List.pairwise_cons.1 h3
    exact ⟨hb.1, hb.2, h2 b (by simp), fun p e => h4 p e b (by simp), ih (fun x hx => h1 x (by simp [hx])) (fun x hx => (hp.1 x hx).1) hp.2 (fun p e x hx => by cases e; exact (hp.1 x hx).2)⟩

theorem free_iff {f t : Int} {l : List Bk} : FreeOk f t f none l ↔ AllIn f t l ∧ l.Pairwise Ahead :=
  ⟨fun h => ⟨(freeOk_pw h).1, (freeOk_pw h).2.2⟩, fun ⟨h1, h2⟩ => freeOk_of h1 (fun b hb => (h1 b hb).1.2.1) h2 (fun p e => by cases e)⟩

/-- It has no page in common with any of them. -/
def NoOv (l : List Bk) (a o : Int) : Prop := ∀ b ∈ l, b.a + pw b.o ≤ a ∨ a + pw o ≤ b.a
theorem noOv_of {l : List Bk} {a o : Int} (h : ¬ ovlP l a o) : NoOv l a o := by
  intro b hb
  obtain ⟨i, hi, rfl⟩ := List.getElem_of_mem hb
  by_cases h1 : l[i].a + pw l[i].o ≤ a
  · exact .inl h1
  · by_cases h2 : a + pw o ≤ l[i].a
    · exact .inr h2
    · exact absurd ⟨i, hi, by rw [List.getD_eq_getElem?_getD, List.getElem?_eq_getElem hi]; exact ⟨by simp only [Option.getD_some]; omega, by simp only [Option.getD_some]; omega⟩⟩ h

theorem ahead_or {l : List Bk} (h : l.Pairwise Ahead) {p q : Bk} (hp : p ∈ l) (hq : q ∈ l) (hne : ¬ (p.a = q.a ∧ p.o = q.o)) : Ahead p q ∨ Ahead q p := by
  obtain ⟨i, hi, rfl⟩ := List.getElem_of_mem hp
  obtain ⟨j, hj, rfl⟩ := List.getElem_of_mem hq
  rw [List.pairwise_iff_getElem] at h
  by_cases e : i < j
  · exact .inl (h i j hi hj e)
  · by_cases g : j < i
    · exact .inr (h j i hj hi g)
    · obtain rfl : i = j := by omega
      exact absurd ⟨rfl, rfl⟩ hne

theorem beside_cases {a o : Int} (h0 : 0 ≤ o) (h4 : o < 4) (hm : a % pw o = 0) : pw (o + 1) = 2 * pw o ∧ ((a % pw (o + 1) = 0 ∧ besideA a o = a + pw o) ∨ (¬ a % pw (o + 1) = 0 ∧ besideA a o = a - pw o ∧ a % pw (o + 1) = pw o)) := by
  rcases (show o = 0 ∨ o = 1 ∨ o = 2 ∨ o = 3 by omega) with rfl | rfl | rfl | rfl
  all_goals
    unfold besideA
    simp only [pw_0, pw_1, pw_2, pw_3, pw_4, show (0 : Int) + 1 = 1 from rfl, show (1 : Int) + 1 = 2 from rfl, show (2 : Int) + 1 = 3 from rfl, show (3 : Int) + 1 = 4 from rfl] at hm ⊢
    refine ⟨by omega, ?_⟩
    split
    · exact .inl ⟨by assumption, rfl⟩
    · exact .inr ⟨by assumption, rfl, by omega⟩

/-- What holds of a block that comes back, while it is joined. -/
structure GoI (f t : Int) (l : List Bk) (a o : Int) : Prop where
  all : AllIn f t l
  pw : l.Pairwise Ahead
  blk : blkIn f t a o
  no : NoOv l a o

theorem go_step {f t : Int} {l : List Bk} {a o : Int} (h : GoI f t l a o) (ho : o < 4) (hb : hasB l (besideA a o) o = true) : GoI f t (dropB l (besideA a o) o) (if besideA a o < a then besideA a o else a) (o + 1) := by
  obtain ⟨⟨o0, o4⟩, a1, a2, a3⟩ := h.blk
  have hbi : blkIn f t (besideA a o) o := hasB_in hb (fun b hb => (h.all b hb).1)
  refine ⟨fun b hb => h.all b (dropB_mem hb), List.Pairwise.filter _ h.pw, join_in h.blk hbi ho, fun b hb' => ?_⟩
  have hbl := dropB_mem hb'
  have hnb : isB (besideA a o) o b = false := by
    have := (List.mem_filter.1 hb').2
    simpa using this
  have hno := h.no b hbl
  unfold hasB at hb
  rw [List.any_eq_true] at hb
  obtain ⟨x, hx, hxi⟩ := hb
  obtain ⟨x1, x2⟩ := of_decide_eq_true hxi
  have hor := ahead_or h.pw hbl hx (by rw [x1, x2]; exact of_decide_eq_false hnb)
  have hp := pw_pos b.o
  have hpo := pw_pos o
  obtain ⟨e2, hc⟩ := beside_cases o0 ho a3
  rw [e2]
  unfold Ahead at hor
  rw [x1, x2] at hor
  rcases hc with ⟨_, hc⟩ | ⟨_, hc, _⟩
  · rw [hc] at hor ⊢
    rw [if_neg (by omega)]
    rcases hor with ⟨g, _⟩ | ⟨g, _⟩ <;> omega
  · rw [hc] at hor ⊢
    rw [if_pos (by omega)]
    rcases hor with ⟨g, _⟩ | ⟨g, _⟩ <;> omega

/-- What holds when it is joined. -/
theorem go_all {f t : Int} : ∀ (n : Nat) (l : List Bk) (a o : Int), (4 - o).toNat = n → GoI f t l a o →
    GoI f t (backGo n l a o).1 (backGo n l a o).2.1 (backGo n l a o).2.2 ∧ ((backGo n l a o).2.2 = 4 ∨ hasB (backGo n l a o).1 (besideA (backGo n l a o).2.1 (backGo n l a o).2.2) (backGo n l a o).2.2 = false) := by
  intro n
  induction n with
  | zero =>
    intro l a o hn h
    have := h.blk.1.2
    exact ⟨h, .inl (by show o = 4; omega)⟩
  | succ n ih =>
    intro l a o hn h
    unfold backGo
    by_cases hb : hasB l (besideA a o) o = true
    · rw [if_pos hb]
      exact ih _ _ _ (by omega) (go_step h (by omega) hb)
    · rw [if_neg hb]
      exact ⟨h, .inr (by simpa using hb)⟩

theorem mem_addB {l : List Bk} {b x : Bk} : x ∈ addB l b ↔ x = b ∨ x ∈ l := by
  induction l with
  | nil => simp [addB]
  | cons y l ih =>
    unfold addB
    split
    · simp
    · simp only [List.mem_cons, ih]
      constructor
      · rintro (h | h | h)
        · exact .inr (.inl h)
        · exact .inl h
        · exact .inr (.inr h)
      · rintro (h | h | h)
        · exact .inr (.inl h)
        · exact .inl h
        · exact .inr (.inr h)

theorem addB_pw {l : List Bk} {b : Bk} (h : l.Pairwise Ahead) (hno : NoOv l b.a b.o) (h1 : ∀ x ∈ l, ¬ besideP x b) (h2 : ∀ x ∈ l, ¬ besideP b x) : (addB l b).Pairwise Ahead := by
  have hp := pw_pos b.o
  induction l with
  | nil => exact List.pairwise_singleton _ _
  | cons x l ih =>
    have hx := List.pairwise_cons.1 h
    have hpx := pw_pos x.o
    have hnx := hno x (by simp)
    unfold addB
    split
    · rename_i hg
      refine List.Pairwise.cons (fun y hy => ⟨?_, h2 y hy⟩) h
      have hny := hno y hy
      rcases List.mem_cons.1 hy with rfl | hy'
      · omega
      · have := (hx.1 y hy').1
        have hpy := pw_pos y.o
        omega
    · rename_i hg
      refine List.Pairwise.cons (fun y hy => ?_) (ih hx.2 (fun y hy => hno y (by simp [hy])) (fun y hy => h1 y (by simp [hy])) (fun y hy => h2 y (by simp [hy])))
      rcases mem_addB.1 hy with rfl | hy
      · exact ⟨by omega, h1 x (by simp)⟩
      · exact hx.1 y hy

/-- A ZONE THAT MAY BE stays one when a block comes back. -/
theorem backZ_may {z : Zn} {a o : Int} (h : ZMay z) (hA : blkIn z.f z.t a o) (hv : ¬ ovlP z.free a o) : ZMay (backZ z a o) := by
  obtain ⟨q1, q2⟩ := free_iff.1 h.free
  obtain ⟨G, hl⟩ := go_all (f := z.f) (t := z.t) (4 - o).toNat z.free a o rfl ⟨q1, q2, hA, noOv_of hv⟩
  obtain ⟨R, hR⟩ : ∃ R, backGo (4 - o).toNat z.free a o = R := ⟨_, rfl⟩
  have hz : backZ z a o = ⟨z.f, z.t, addB R.1 ⟨R.2.1, R.2.2, z.types.getD ((R.2.1 - z.f) / 8).toNat 0⟩, z.types⟩ := by unfold backZ; rw [hR]
  rw [hR] at G hl
  obtain ⟨⟨o0, o4⟩, a1, a2, a3⟩ := G.blk
  have hlen := h.len
  have hty : typeOk (z.types.getD ((R.2.1 - z.f) / 8).toNat 0) := h.ty _ (by omega)
  rw [hz]
  refine ⟨h.new, h.len, h.ty, free_iff.2 ⟨fun b hb => ?_, addB_pw G.pw G.no (fun x hx => ?_) (fun x hx => ?_)⟩⟩
  · rcases mem_addB.1 hb with rfl | hb
    · exact ⟨G.blk, hty⟩
    · exact G.all b hb
  · rintro ⟨b1, b2, b3, b4⟩
    dsimp only at b1 b2 b3 b4
    obtain ⟨_, hc⟩ := beside_cases o0 b1 a3
    have hh : besideA R.2.1 R.2.2 = x.a := by
      rcases hc with ⟨g, _⟩ | ⟨_, g, _⟩
      · exfalso
        rw [← b3] at g
        rcases (show R.2.2 = 0 ∨ R.2.2 = 1 ∨ R.2.2 = 2 ∨ R.2.2 = 3 by omega) with e | e | e | e
        all_goals
          rw [e] at g b4
          simp only [pw_0, pw_1, pw_2, pw_3, pw_4, show (0 : Int) + 1 = 1 from rfl, show (1 : Int) + 1 = 2 from rfl, show (2 : Int) + 1 = 3 from rfl, show (3 : Int) + 1 = 4 from rfl] at g b4
          omega
      · omega
    rcases hl with g | g
    · omega
    · rw [hh] at g
      unfold hasB at g
      rw [List.any_eq_false] at g
      exact g x hx (decide_eq_true ⟨rfl, b2⟩)
  · rintro ⟨b1, b2, b3, b4⟩
    dsimp only at b1 b2 b3 b4
    rw [← b2] at b1 b3 b4
    have hh : besideA R.2.1 R.2.2 = x.a := by unfold besideA; rw [if_pos b4]; exact b3
    rcases hl with g | g
    · omega
    · rw [hh] at g
      unfold hasB at g
      rw [List.any_eq_false] at g
      exact g x hx (decide_eq_true ⟨rfl, b2.symm⟩)

end Go.Proofs.Ytamkgakhgfhmjae.Kit
