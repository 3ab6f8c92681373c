/-
  OWN TEXTS, bundled: ZTkP, ZTkP2, ZStP, ZTkP3, ZTkQ, ZCnt, ZInv, ZUnq, HDrP, ZTyp, ZcTypA.
-/
import Derived.Test.YtbjlbmofdnkmiaaPagesFreesPart6
import Derived.Test.YtbjlbmofdnkmiaaPagesFreesPart15
import Derived.Test.YtbjlbmofdnkmiaaPagesFreesPart10
import Derived.Test.YtbjlbmofdnkmiaaPagesFreesPart3
import Derived.Test.YtbjlbmofdnkmiaaPagesFreesPart9
import Derived.Test.YtbjlbmofdnkmiaaPagesFreesPart13

/-
  OWN TEXT. A block that is taken: the first that fits, and the halves that go back one by one: plain mathematics.
-/
namespace Go.Proofs.Ytbjlbmofdnkmiaa.Kit

theorem fidx_ge (g : Bk → Bool) (l : List Bk) : -1 ≤ fidx g l := by
  induction l with
  | nil => exact Int.le_refl (-1)
  | cons b l ih =>
    unfold fidx
    split
    · decide
    · split
      · decide
      · omega

theorem pw_succ (o : Int) (h : 0 ≤ o) : pw (o + 1) = 2 * pw o := by
  unfold pw
  have e : (o + 1).toNat = o.toNat + 1 := by omega
  rw [e, Nat.pow_succ]
  omega

/-- The first that fits stands at the first place. -/
theorem find_fidx (g : Bk → Bool) (l : List Bk) : l.find? g = if 0 ≤ fidx g l then some (l.getD (fidx g l).toNat .zero) else none := by
  induction l with
  | nil => rfl
  | cons b l ih =>
    by_cases hb : g b = true
    · rw [List.find?_cons_of_pos hb]
      unfold fidx
      rw [if_pos hb]
      rfl
    · rw [List.find?_cons_of_neg hb, ih]
      have hge := fidx_ge g l
      conv => rhs; unfold fidx
      rw [if_neg hb]
      by_cases hn : fidx g l < 0
      · rw [if_pos hn, if_neg (by omega), if_neg (by decide)]
      · rw [if_neg hn, if_pos (by omega), if_pos (by omega)]
        have e : (fidx g l + 1).toNat = (fidx g l).toNat + 1 := by omega
        rw [e]
        rfl

/-- A block goes between those that begin not later and those that begin later. -/
theorem addB_mid (p q : List Bk) (h : Bk) (hp : ∀ x ∈ p, x.a ≤ h.a) (hq : ∀ x ∈ q, h.a < x.a) : addB (p ++ q) h = p ++ h :: q := by
  induction p with
  | nil =>
    cases q with
    | nil => rfl
    | cons y q =>
      have := hq y (by simp)
      show (if y.a > h.a then h :: y :: q else y :: addB q h) = _
      rw [if_pos (by omega)]
      rfl
  | cons x p ih =>
    have := hp x (by simp)
    show (if x.a > h.a then h :: x :: (p ++ q) else x :: addB (p ++ q) h) = _
    rw [if_neg (by omega), ih (fun y hy => hp y (by simp [hy]))]
    rfl

/-- The upper halves put back one by one, the greatest first. -/
def putH (a t o : Int) : Nat → List Bk → List Bk
  | 0, l => l
  | m + 1, l => putH a t o m (addB l ⟨a + pw (o + m), o + m, t⟩)

theorem putH_mid (a t o : Int) (ho : 0 ≤ o) (p : List Bk) (hp : ∀ x ∈ p, x.a ≤ a) (m : Nat) (q : List Bk) (hq : ∀ x ∈ q, a + pw (o + m) ≤ x.a) :
    putH a t o m (p ++ q) = p ++ halvesL a t o m ++ q := by
  induction m generalizing q with
  | zero => simp [putH, halvesL]
  | succ m ih =>
    have hs : pw (o + (m + 1 : Nat)) = 2 * pw (o + m) := by
      have : o + ((m + 1 : Nat) : Int) = (o + m) + 1 := by omega
      rw [this]
      exact pw_succ (o + m) (by omega)
    have hpos := pw_pos (o + m)
    unfold putH halvesL
    rw [addB_mid p q _ (fun x hx => by have := hp x hx; show x.a ≤ a + pw (o + m); omega) (fun x hx => by have := hq x hx; show a + pw (o + m) < x.a; omega)]
    rw [ih (⟨a + pw (o + m), o + m, t⟩ :: q)]
    · simp
    · intro x hx
      rcases List.mem_cons.1 hx with rfl | hx
      · exact Int.le_refl _
      · have := hq x hx
        omega

theorem dropB_mid (p q : List Bk) (b : Bk) (hp : ∀ x ∈ p, x.a ≠ b.a) (hq : ∀ x ∈ q, x.a ≠ b.a) : dropB (p ++ b :: q) b.a b.o = p ++ q := by
  have k : ∀ l : List Bk, (∀ x ∈ l, x.a ≠ b.a) → l.filter (fun x => !isB b.a b.o x) = l := fun l hl => List.filter_eq_self.2 fun x hx => by
    have := hl x hx
    simp [isB, this]
  unfold dropB
  rw [List.filter_append, k p hp, List.filter_cons, k q hq]
  simp [isB]

/-- Taking a block out and putting its upper halves back is putting them in its place. -/
theorem take_place (p q : List Bk) (b : Bk) (t o : Int) (ho : 0 ≤ o) (hob : o ≤ b.o) (hr : (p ++ b :: q).Pairwise fun x y => x.a + pw x.o ≤ y.a) :
    putH b.a t o (b.o - o).toNat (dropB (p ++ b :: q) b.a b.o) = p ++ halvesL b.a t o (b.o - o).toNat ++ q := by
  obtain ⟨_, h2, h3⟩ := List.pairwise_append.1 hr
  obtain ⟨h4, _⟩ := List.pairwise_cons.1 h2
  have hpb : ∀ x ∈ p, x.a + pw x.o ≤ b.a := fun x hx => h3 x hx b (by simp)
  have hpos := pw_pos b.o
  rw [dropB_mid p q b (fun x hx => by have := hpb x hx; have := pw_pos x.o; omega) (fun x hx => by have := h4 x hx; omega)]
  have e : o + ((b.o - o).toNat : Int) = b.o := by omega
  exact putH_mid b.a t o ho p (fun x hx => by have := hpb x hx; have := pw_pos x.o; omega) _ q (fun x hx => by rw [e]; exact h4 x hx)

end Go.Proofs.Ytbjlbmofdnkmiaa.Kit

/-
  OWN TEXT. What is left free when a block is taken may be: plain mathematics.
-/
namespace Go.Proofs.Ytbjlbmofdnkmiaa.Kit

theorem halves_mem {a t o : Int} {m : Nat} {x : Bk} (h : x ∈ halvesL a t o m) : ∃ k : Nat, k < m ∧ x = ⟨a + pw (o + k), o + k, t⟩ := by
  induction m with
  | zero => simp [halvesL] at h
  | succ m ih =>
    unfold halvesL at h
    rcases List.mem_append.1 h with h | h
    · obtain ⟨k, hk, e⟩ := ih h
      exact ⟨k, by omega, e⟩
    · exact ⟨m, by omega, by simpa using h⟩

theorem pw_mono {i j : Int} (h : i ≤ j) : pw i ≤ pw j := by
  unfold pw
  exact Int.ofNat_le.2 (Nat.pow_le_pow_right (by decide) (by omega))

theorem halves_ahead (a t o : Int) (ho : 0 ≤ o) (m : Nat) : (halvesL a t o m).Pairwise Ahead := by
  induction m with
  | zero => exact List.Pairwise.nil
  | succ m ih =>
    unfold halvesL
    refine List.pairwise_append.2 ⟨ih, List.pairwise_singleton _ _, ?_⟩
    intro x hx y hy
    obtain ⟨k, hk, rfl⟩ := halves_mem hx
    have hy' : y = ⟨a + pw (o + m), o + m, t⟩ := by simpa using hy
    subst hy'
    refine ⟨?_, fun hb => ?_⟩
    · have h1 := pw_succ (o + k) (by omega)
      have h2 := pw_mono (i := o + k + 1) (j := o + m) (by omega)
      show a + pw (o + k) + pw (o + k) ≤ a + pw (o + m)
      omega
    · have h3 : o + (k : Int) = o + m := hb.2.1
      omega

theorem upper_odd {a k bo : Int} (hb : ordOk bo) (h0 : 0 ≤ k) (h1 : k < bo) (ha : a % pw bo = 0) : (a + pw k) % pw (k + 1) ≠ 0 := by
  rw [pw_succ k h0]
  rcases ord_cases hb with ⟨e, p⟩ | ⟨e, p⟩ | ⟨e, p⟩ | ⟨e, p⟩ | ⟨e, p⟩ <;> rw [p] at ha <;>
    rcases ord_cases (o := k) ⟨h0, by obtain ⟨_, _⟩ := hb; omega⟩ with ⟨e', p'⟩ | ⟨e', p'⟩ | ⟨e', p'⟩ | ⟨e', p'⟩ | ⟨e', p'⟩ <;> rw [p'] <;> omega

theorem take_ahead {f z : Int} (p q : List Bk) (b : Bk) (t o : Int) (ho : 0 ≤ o) (hi : AllIn f z (p ++ b :: q)) (hr : (p ++ b :: q).Pairwise Ahead) :
    (p ++ halvesL b.a t o (b.o - o).toNat ++ q).Pairwise Ahead := by
  obtain ⟨h1, h2, h3⟩ := List.pairwise_append.1 hr
  obtain ⟨h4, h5⟩ := List.pairwise_cons.1 h2
  obtain ⟨⟨hbo, hba, hbz, hal⟩, _⟩ := hi b (by simp)
  refine List.pairwise_append.2 ⟨List.pairwise_append.2 ⟨h1, halves_ahead _ _ _ ho _, ?_⟩, h5, ?_⟩
  · intro x hx y hy
    obtain ⟨k, hk, rfl⟩ := halves_mem hy
    have hxb := (h3 x hx b (by simp)).1
    have hp := pw_pos (o + k)
    have hpx := pw_pos x.o
    refine ⟨?_, fun hb => ?_⟩
    · show x.a + pw x.o ≤ b.a + pw (o + k)
      omega
    · have h6 : x.a + pw (o + k) = b.a + pw (o + k) := hb.2.2.1
      omega
  · intro x hx y hy
    rcases List.mem_append.1 hx with hx | hx
    · exact h3 x hx y (by simp [hy])
    · obtain ⟨k, hk, rfl⟩ := halves_mem hx
      have hby := (h4 y hy).1
      have h6 := pw_succ (o + k) (by omega)
      have h7 := pw_mono (i := o + k + 1) (j := b.o) (by omega)
      refine ⟨?_, fun hb => ?_⟩
      · show b.a + pw (o + k) + pw (o + k) ≤ y.a
        omega
      · have h8 : o + (k : Int) = y.o := hb.2.1
        have h9 : (b.a + pw (o + k)) % pw (y.o + 1) = 0 := hb.2.2.2
        rw [← h8] at h9
        exact upper_odd hbo (by omega) (by omega) hal h9

theorem take_in {f z : Int} (p q : List Bk) (b : Bk) (t o : Int) (ho : 0 ≤ o) (ht : typeOk t) (hz : z % 16 = 0) (hi : AllIn f z (p ++ b :: q)) :
    AllIn f z (p ++ halvesL b.a t o (b.o - o).toNat ++ q) := by
  intro x hx
  obtain ⟨⟨hbo, hba, hbz, hal⟩, _⟩ := hi b (by simp)
  rcases List.mem_append.1 hx with hx | hx
  · rcases List.mem_append.1 hx with hx | hx
    · exact hi x (by simp [hx])
    · obtain ⟨k, hk, rfl⟩ := halves_mem hx
      have hK : o + (k : Int) < b.o := by omega
      have hK0 : 0 ≤ o + (k : Int) := by omega
      obtain ⟨K, e⟩ : ∃ K, o + (k : Int) = K := ⟨_, rfl⟩
      rw [e] at hK hK0 ⊢
      have hb4 := hbo.2
      have hK4 : K ≤ 4 := by omega
      refine ⟨⟨⟨hK0, hK4⟩, ?_, ?_, ?_⟩, ht⟩
      · show f ≤ b.a + pw K
        have := pw_pos K
        omega
      · show b.a + pw K ≤ z - 1
        rcases ord_cases hbo with ⟨e1, e2⟩ | ⟨e1, e2⟩ | ⟨e1, e2⟩ | ⟨e1, e2⟩ | ⟨e1, e2⟩ <;> rw [e2] at hal <;>
          rcases ord_cases (o := K) ⟨hK0, hK4⟩ with ⟨e3, e4⟩ | ⟨e3, e4⟩ | ⟨e3, e4⟩ | ⟨e3, e4⟩ | ⟨e3, e4⟩ <;> rw [e4] <;> omega
      · show (b.a + pw K) % pw K = 0
        rcases ord_cases hbo with ⟨e1, e2⟩ | ⟨e1, e2⟩ | ⟨e1, e2⟩ | ⟨e1, e2⟩ | ⟨e1, e2⟩ <;> rw [e2] at hal <;>
          rcases ord_cases (o := K) ⟨hK0, hK4⟩ with ⟨e3, e4⟩ | ⟨e3, e4⟩ | ⟨e3, e4⟩ | ⟨e3, e4⟩ | ⟨e3, e4⟩ <;> rw [e4] <;> omega
  · exact hi x (by simp [hx])

end Go.Proofs.Ytbjlbmofdnkmiaa.Kit

/-
  OWN TEXT. Groups that are stolen, with all that is free in them: plain mathematics.
-/
namespace Go.Proofs.Ytbjlbmofdnkmiaa.Kit

/-- c types, from F on, are t. -/
def setR (ty : List Int) (F : Nat) (t : Int) : Nat → List Int
  | 0 => ty
  | c + 1 => (setR ty F t c).set (F + c) t
theorem setR_len (ty : List Int) (F : Nat) (t : Int) (c : Nat) : (setR ty F t c).length = ty.length := by
  induction c with
  | zero => rfl
  | succ c ih => simp [setR, ih]
/-- A block of the groups F to L is of type t. -/
def stealB (f F L t : Int) (b : Bk) : Bk := if F ≤ (b.a - f) / 8 ∧ (b.a - f) / 8 ≤ L then ⟨b.a, b.o, t⟩ else b
theorem stealB_a (f F L t : Int) (b : Bk) : (stealB f F L t b).a = b.a := by unfold stealB; split <;> rfl
theorem stealB_o (f F L t : Int) (b : Bk) : (stealB f F L t b).o = b.o := by unfold stealB; split <;> rfl
/-- The first i of them. -/
def stealK (f F L t : Int) (l : List Bk) (i : Nat) : List Bk := (l.take i).map (stealB f F L t) ++ l.drop i
theorem stealK_0 (f F L t : Int) (l : List Bk) : stealK f F L t l 0 = l := by simp [stealK]
theorem stealK_all (f F L t : Int) (l : List Bk) : stealK f F L t l l.length = l.map (stealB f F L t) := by simp [stealK]
theorem stealK_len (f F L t : Int) (l : List Bk) (i : Nat) : (stealK f F L t l i).length = l.length := by simp [stealK]; omega
theorem stealK_at (f F L t : Int) {l : List Bk} {i : Nat} (h : i < l.length) : (stealK f F L t l i).getD i .zero = l.getD i .zero := by
  unfold stealK
  rw [List.getD_eq_getElem?_getD, List.getD_eq_getElem?_getD, List.getElem?_append_right (by simp; omega)]
  simp [List.getElem?_drop, Nat.min_eq_left (Nat.le_of_lt h)]
theorem stealK_succ (f F L t : Int) {l : List Bk} {i : Nat} (h : i < l.length) {b : Bk} (hb : l.getD i .zero = b) : stealK f F L t l (i + 1) = (stealK f F L t l i).set i (stealB f F L t b) := by
  have hb' : l[i] = b := by rw [List.getD_eq_getElem?_getD, List.getElem?_eq_getElem h] at hb; exact hb
  unfold stealK
  rw [List.take_succ_eq_append_getElem h, List.map_append, List.set_append_right _ _ (by simp; omega)]
  have e : i - ((l.take i).map (stealB f F L t)).length = 0 := by simp; omega
  rw [e, List.drop_eq_getElem_cons h, List.set_cons_zero, hb']
  simp

end Go.Proofs.Ytbjlbmofdnkmiaa.Kit

/-
  OWN TEXT. What is stolen may be: plain mathematics.
-/
namespace Go.Proofs.Ytbjlbmofdnkmiaa.Kit

theorem steal_ahead (f F L t : Int) {l : List Bk} (h : l.Pairwise Ahead) : (l.map (stealB f F L t)).Pairwise Ahead := by
  refine List.pairwise_map.2 (h.imp ?_)
  intro x y hxy
  unfold Ahead besideP at *
  rw [stealB_a, stealB_o, stealB_a, stealB_o]
  exact hxy

theorem steal_in {f z F L t : Int} {l : List Bk} (ht : typeOk t) (h : AllIn f z l) : AllIn f z (l.map (stealB f F L t)) := by
  intro b hb
  obtain ⟨x, hx, rfl⟩ := List.mem_map.1 hb
  obtain ⟨h1, h2⟩ := h x hx
  rw [stealB_a, stealB_o]
  refine ⟨h1, ?_⟩
  unfold stealB
  split
  · exact ht
  · exact h2

theorem setR_ok {ty : List Int} {F : Nat} {t : Int} (ht : typeOk t) (h : ∀ i, i < ty.length → typeOk (ty.getD i 0)) (c : Nat) : ∀ i, i < (setR ty F t c).length → typeOk ((setR ty F t c).getD i 0) := by
  induction c with
  | zero => exact h
  | succ c ih =>
    intro i hi
    unfold setR at hi ⊢
    rw [List.length_set] at hi
    rw [List.getD_eq_getElem?_getD, List.getElem?_set]
    split
    · split
      · exact ht
      · exact absurd (by omega : F + c < (setR ty F t c).length) ‹_›
    · have := ih i hi
      rwa [List.getD_eq_getElem?_getD] at this

/-- A zone whose groups are stolen may be. -/
theorem steal_may {z : Zn} (h : ZMay z) (F : Nat) (L t : Int) (c : Nat) (ht : typeOk t) : ZMay ⟨z.f, z.t, z.free.map (stealB z.f F L t), setR z.types F t c⟩ := by
  obtain ⟨h1, h2⟩ := free_iff.1 h.free
  exact ⟨h.new, by rw [setR_len]; exact h.len, setR_ok ht h.ty c, free_iff.2 ⟨steal_in ht h1, steal_ahead _ _ _ _ h2⟩⟩

/-- A zone of which a block is taken may be. -/
theorem take_may {z : Zn} (h : ZMay z) (p q : List Bk) (b : Bk) (t o : Int) (ho : 0 ≤ o) (ht : typeOk t) (e : z.free = p ++ b :: q) : ZMay ⟨z.f, z.t, p ++ halvesL b.a t o (b.o - o).toNat ++ q, z.types⟩ := by
  have hf := h.free
  rw [e] at hf
  obtain ⟨h1, h2⟩ := free_iff.1 hf
  exact ⟨h.new, h.len, h.ty, free_iff.2 ⟨take_in p q b t o ho ht h.new.2.2.2.2 h1, take_ahead p q b t o ho h1 h2⟩⟩

end Go.Proofs.Ytbjlbmofdnkmiaa.Kit

/-
  OWN TEXT. What a take leaves of a zone, and that it may be: plain mathematics.
-/
namespace Go.Proofs.Ytbjlbmofdnkmiaa.Kit

/-- The groups of a block. -/
def grpF (z : Zn) (b : Bk) : Int := (b.a - z.f) / 8
def grpL (z : Zn) (b : Bk) : Int := (b.a + pw b.o - 1 - z.f) / 8

/-- Is the block stolen? -/
def steals (b : Bk) (t : Int) : Prop := b.t ≠ t ∧ 2 ≤ b.o
instance (b : Bk) (t : Int) : Decidable (steals b t) := by unfold steals; infer_instance

/-- The zone of which the block at place i has been stolen. -/
def stolenZ (z : Zn) (b : Bk) (t : Int) : Zn := ⟨z.f, z.t, z.free.map (stealB z.f (grpF z b) (grpL z b) t), setR z.types (grpF z b).toNat t ((grpL z b).toNat + 1 - (grpF z b).toNat)⟩

/-- The zone behind a take of an order, for a type, of the block at place i. -/
def takeZ (z : Zn) (o t : Int) (i : Nat) : Zn :=
  let b := z.free.getD i .zero
  if steals b t then
    let s := stolenZ z b t
    ⟨z.f, z.t, s.free.take i ++ (halvesL b.a t o (b.o - o).toNat ++ s.free.drop (i + 1)), s.types⟩
  else ⟨z.f, z.t, z.free.take i ++ (halvesL b.a b.t o (b.o - o).toNat ++ z.free.drop (i + 1)), z.types⟩

theorem fidx_in {g : Bk → Bool} {l : List Bk} (h : 0 ≤ fidx g l) : ∃ i : Nat, fidx g l = i ∧ i < l.length ∧ g (l.getD i .zero) = true := by
  induction l with
  | nil => simp [fidx] at h
  | cons b l ih =>
    by_cases hb : g b = true
    · exact ⟨0, by simp [fidx, hb], by simp, by simpa using hb⟩
    · by_cases hn : fidx g l < 0
      · simp [fidx, hb, hn] at h
      · obtain ⟨i, e, hi, hg⟩ := ih (by omega)
        refine ⟨i + 1, ?_, by simpa using hi, by simpa using hg⟩
        show (if g b = true then (0 : Int) else if fidx g l < 0 then -1 else fidx g l + 1) = _
        rw [if_neg hb, if_neg hn, e]
        rfl

theorem upI_in {l : List Bk} {t : Int} {n : Nat} {o : Int} (h : 0 ≤ upI l t n o) : ∃ i : Nat, upI l t n o = i ∧ i < l.length ∧ o ≤ (l.getD i .zero).o := by
  induction n generalizing o with
  | zero => simp [upI] at h
  | succ n ih =>
    unfold upI at h ⊢
    split at h
    · rename_i hf
      rw [if_pos hf]
      obtain ⟨i, e, hi, hg⟩ := fidx_in hf
      have := (of_decide_eq_true hg).1
      exact ⟨i, e, hi, by omega⟩
    · rename_i hf
      rw [if_neg hf]
      obtain ⟨i, e, hi, hg⟩ := ih h
      exact ⟨i, e, hi, by omega⟩

theorem dnI_in {l : List Bk} {u v o : Int} {n : Nat} (h : 0 ≤ dnI l u v o n) : ∃ i : Nat, dnI l u v o n = i ∧ i < l.length ∧ o ≤ (l.getD i .zero).o := by
  induction n with
  | zero => simp [dnI] at h
  | succ n ih =>
    unfold dnI at h ⊢
    split at h
    · rename_i hf
      rw [if_pos hf]
      obtain ⟨i, e, hi, hg⟩ := fidx_in hf
      have := (of_decide_eq_true hg).1
      exact ⟨i, e, hi, by omega⟩
    · rename_i hf
      rw [if_neg hf]
      split at h
      · rename_i hk
        rw [if_pos hk]
        obtain ⟨i, e, hi, hg⟩ := fidx_in hk
        have := (of_decide_eq_true hg).1
        exact ⟨i, e, hi, by omega⟩
      · rename_i hk
        rw [if_neg hk]
        exact ih h

theorem choose_in {l : List Bk} {o t : Int} (h : 0 ≤ chooseI l o t) : ∃ i : Nat, chooseI l o t = i ∧ i < l.length ∧ o ≤ (l.getD i .zero).o := by
  unfold chooseI at h ⊢
  split at h
  · rename_i hu
    rw [if_pos hu]
    exact upI_in hu
  · rename_i hu
    rw [if_neg hu]
    exact dnI_in h

theorem map_getD (f : Bk → Bk) {l : List Bk} {i : Nat} (h : i < l.length) : (l.map f).getD i .zero = f (l.getD i .zero) := by
  rw [List.getD_eq_getElem?_getD, List.getD_eq_getElem?_getD, List.getElem?_map, List.getElem?_eq_getElem h]
  rfl

theorem cut_at (l : List Bk) {i : Nat} (h : i < l.length) : l = l.take i ++ l.getD i .zero :: l.drop (i + 1) := by
  rw [List.getD_eq_getElem?_getD, List.getElem?_eq_getElem h]
  simp

/-- The stolen block has the type. -/
theorem stolen_self {z : Zn} {b : Bk} (t : Int) : stealB z.f (grpF z b) (grpL z b) t b = ⟨b.a, b.o, t⟩ := by
  have hp := pw_pos b.o
  unfold stealB grpF grpL
  rw [if_pos ⟨Int.le_refl _, by omega⟩]

theorem takeZ_may {z : Zn} (h : ZMay z) {o t : Int} (ho : 0 ≤ o) (ht : typeOk t) {i : Nat} (hi : i < z.free.length) (hb : typeOk (z.free.getD i .zero).t) (hf : z.f ≤ (z.free.getD i .zero).a) : ZMay (takeZ z o t i) := by
  unfold takeZ
  dsimp only
  split
  · have e : ((grpF z (z.free.getD i .zero)).toNat : Int) = grpF z (z.free.getD i .zero) := Int.toNat_of_nonneg (by unfold grpF; omega)
    have hs := steal_may h (grpF z (z.free.getD i .zero)).toNat (grpL z (z.free.getD i .zero)) t ((grpL z (z.free.getD i .zero)).toNat + 1 - (grpF z (z.free.getD i .zero)).toNat) ht
    rw [e] at hs
    have hc := cut_at (z.free.map (stealB z.f (grpF z (z.free.getD i .zero)) (grpL z (z.free.getD i .zero)) t)) (i := i) (by simpa using hi)
    rw [map_getD _ hi, stolen_self] at hc
    have := take_may hs _ _ _ t o ho ht hc
    simpa [stolenZ] using this
  · have := take_may h _ _ _ (z.free.getD i .zero).t o ho hb (cut_at z.free hi)
    simpa using this

end Go.Proofs.Ytbjlbmofdnkmiaa.Kit

/-
  OWN TEXT. How many blocks have a page: plain mathematics.
-/
namespace Go.Proofs.Ytbjlbmofdnkmiaa.Kit

/-- Is a page in a block? -/
def hit (a o p : Int) : Nat := if a ≤ p ∧ p < a + pw o then 1 else 0
/-- How many blocks have a page. -/
def cnt : List Bk → Int → Nat
  | [], _ => 0
  | b :: l, p => hit b.a b.o p + cnt l p

theorem cnt_append (l m : List Bk) (p : Int) : cnt (l ++ m) p = cnt l p + cnt m p := by
  induction l with
  | nil => simp [cnt]
  | cons b l ih => simp only [List.cons_append, cnt, ih]; omega
theorem cnt_one (b : Bk) (p : Int) : cnt [b] p = hit b.a b.o p := by simp [cnt]

theorem rise_ne {b : Bk} {l : List Bk} (h : (b :: l).Pairwise Ahead) : ∀ x ∈ l, x.a ≠ b.a := fun x hx => by
  have := ((List.pairwise_cons.1 h).1 x hx).1
  have := pw_pos b.o
  omega
theorem drop_same {l : List Bk} {a o : Int} (h : ∀ x ∈ l, x.a ≠ a) : dropB l a o = l := by
  unfold dropB
  rw [List.filter_eq_self]
  intro b hb
  have : isB a o b = false := decide_eq_false (fun g => h b hb g.1)
  rw [this]; rfl

theorem cnt_drop {l : List Bk} (hl : l.Pairwise Ahead) {a o : Int} (h : hasB l a o = true) (p : Int) : cnt l p = cnt (dropB l a o) p + hit a o p := by
  induction l with
  | nil => simp [hasB] at h
  | cons b l ih =>
    by_cases hb : isB a o b = true
    · obtain ⟨e1, e2⟩ := of_decide_eq_true hb
      have e : dropB (b :: l) a o = dropB l a o := by unfold dropB; rw [List.filter_cons]; simp [hb]
      rw [e, drop_same (fun x hx => by rw [← e1]; exact rise_ne hl x hx)]
      simp only [cnt, e1, e2]
      omega
    · have hb' : isB a o b = false := by simpa using hb
      have e : dropB (b :: l) a o = b :: dropB l a o := by unfold dropB; rw [List.filter_cons]; simp [hb']
      have h' : hasB l a o = true := by simpa [hasB, hb'] using h
      rw [e]
      simp only [cnt, ih (List.pairwise_cons.1 hl).2 h']
      omega

theorem cnt_add (l : List Bk) (b : Bk) (p : Int) : cnt (addB l b) p = cnt l p + hit b.a b.o p := by
  induction l with
  | nil => simp [addB, cnt]
  | cons x l ih =>
    unfold addB
    split
    · simp only [cnt]; omega
    · simp only [cnt, ih]; omega

theorem hit_join {a o : Int} (h0 : 0 ≤ o) (h4 : o < 4) (hm : a % pw o = 0) (p : Int) : (if besideA a o < a then besideA a o else a) % pw (o + 1) = 0 ∧ hit (if besideA a o < a then besideA a o else a) (o + 1) p = hit a o p + hit (besideA a o) o p := by
  obtain ⟨e, h | h⟩ := beside_cases h0 h4 hm
  · have hp := pw_pos o
    rw [h.2, if_neg (by omega)]
    refine ⟨h.1, ?_⟩
    unfold hit
    rw [e]
    repeat' split
    all_goals omega
  · have hp := pw_pos o
    rw [h.2.1, if_pos (by omega)]
    refine ⟨?_, ?_⟩
    · have h3 := h.2.2
      rw [e] at h3 ⊢
      have := Int.emod_add_mul_ediv a (2 * pw o)
      rw [h3] at this
      have e2 : a - pw o = 2 * pw o * (a / (2 * pw o)) := by omega
      rw [e2]
      exact Int.mul_emod_right _ _
    · unfold hit
      rw [e]
      repeat' split
      all_goals omega

theorem drop_ahead {l : List Bk} (h : l.Pairwise Ahead) (a o : Int) : (dropB l a o).Pairwise Ahead := List.Pairwise.filter _ h

theorem cnt_go : ∀ (n : Nat) (l : List Bk) (a o : Int), (4 - o).toNat = n → 0 ≤ o → a % pw o = 0 → l.Pairwise Ahead → ∀ p, cnt (backGo n l a o).1 p + hit (backGo n l a o).2.1 (backGo n l a o).2.2 p = cnt l p + hit a o p := by
  intro n
  induction n with
  | zero => intro l a o _ _ _ _ p; rfl
  | succ n ih =>
    intro l a o hn h0 hm hl p
    unfold backGo
    split
    · rename_i hb
      obtain ⟨j1, j2⟩ := hit_join h0 (by omega) hm p
      rw [ih _ _ _ (by omega) (by omega) j1 (drop_ahead hl _ _) p, j2, cnt_drop hl hb p]
      omega
    · rfl

theorem cnt_back {z : Zn} {a o : Int} (h : z.free.Pairwise Ahead) (h0 : 0 ≤ o) (hm : a % pw o = 0) (p : Int) : cnt (backZ z a o).free p = cnt z.free p + hit a o p := by
  show cnt (addB _ _) p = _
  rw [cnt_add]
  exact cnt_go (4 - o).toNat z.free a o rfl h0 hm h p

theorem cnt_halves (a t o : Int) (h0 : 0 ≤ o) (m : Nat) (p : Int) : cnt (halvesL a t o m) p + hit a o p = hit a (o + m) p := by
  induction m with
  | zero => simp [halvesL, cnt]
  | succ m ih =>
    have e : pw (o + ((m + 1 : Nat) : Int)) = 2 * pw (o + m) := by
      rw [show o + ((m + 1 : Nat) : Int) = o + m + 1 by omega]
      exact pw_succ _ (by omega)
    have hp := pw_pos (o + m)
    simp only [halvesL, cnt_append, cnt_one]
    have k : hit a (o + ((m + 1 : Nat) : Int)) p = hit a (o + m) p + hit (a + pw (o + m)) (o + m) p := by
      unfold hit
      rw [e]
      repeat' split
      all_goals omega
    omega

theorem cnt_steal (f F L t : Int) (l : List Bk) (p : Int) : cnt (l.map (stealB f F L t)) p = cnt l p := by
  induction l with
  | nil => rfl
  | cons b l ih => simp only [List.map_cons, cnt, ih, stealB_a, stealB_o]

theorem cnt_put {l h : List Bk} {i : Nat} (hi : i < l.length) {o : Int} (p : Int) (hh : cnt h p + hit (l.getD i .zero).a o p = hit (l.getD i .zero).a (l.getD i .zero).o p) :
    cnt (l.take i ++ (h ++ l.drop (i + 1))) p + hit (l.getD i .zero).a o p = cnt l p := by
  have e : cnt l p = cnt (l.take i) p + (hit (l.getD i .zero).a (l.getD i .zero).o p + cnt (l.drop (i + 1)) p) := by
    conv => lhs; rw [cut_at l hi]
    rw [cnt_append]
    rfl
  rw [e, cnt_append, cnt_append]
  omega

theorem cnt_take {z : Zn} {o t : Int} {i : Nat} (hi : i < z.free.length) (h0 : 0 ≤ o) (ho : o ≤ (z.free.getD i .zero).o) (p : Int) : cnt (takeZ z o t i).free p + hit (z.free.getD i .zero).a o p = cnt z.free p := by
  have e : o + (((z.free.getD i .zero).o - o).toNat : Int) = (z.free.getD i .zero).o := by omega
  have hh : ∀ u, cnt (halvesL (z.free.getD i .zero).a u o ((z.free.getD i .zero).o - o).toNat) p + hit (z.free.getD i .zero).a o p = hit (z.free.getD i .zero).a (z.free.getD i .zero).o p := fun u => by
    rw [cnt_halves _ _ _ h0, e]
  unfold takeZ
  dsimp only
  split
  · have k := cnt_put (l := z.free.map (stealB z.f (grpF z (z.free.getD i .zero)) (grpL z (z.free.getD i .zero)) t)) (h := halvesL (z.free.getD i .zero).a t o ((z.free.getD i .zero).o - o).toNat) (i := i) (by simpa using hi) (o := o) p (by rw [map_getD _ hi, stolen_self]; exact hh t)
    rw [map_getD _ hi, stolen_self, cnt_steal] at k
    exact k
  · exact cnt_put hi p (hh _)

theorem cnt_ge {l : List Bk} {i : Nat} (hi : i < l.length) (p : Int) : hit (l.getD i .zero).a (l.getD i .zero).o p ≤ cnt l p := by
  rw [cut_at l hi, cnt_append]
  simp only [cnt]
  have e : (l.take i ++ l.getD i .zero :: l.drop (i + 1)).getD i .zero = l.getD i .zero := by rw [← cut_at l hi]
  rw [e]
  omega

/-- A block whose pages are in no other one overlaps none. -/
theorem no_ovl {l : List Bk} {a o : Int} (h : ∀ p, cnt l p + hit a o p ≤ 1) : ¬ ovlP l a o := by
  rintro ⟨i, hi, h1, h2⟩
  have hp := pw_pos o
  have hq := pw_pos (l.getD i .zero).o
  by_cases c : a ≤ (l.getD i .zero).a
  · have k := h (l.getD i .zero).a
    have g := cnt_ge hi (l.getD i .zero).a
    have e1 : hit (l.getD i .zero).a (l.getD i .zero).o (l.getD i .zero).a = 1 := if_pos ⟨by omega, by omega⟩
    have e2 : hit a o (l.getD i .zero).a = 1 := if_pos ⟨c, h1⟩
    omega
  · have k := h a
    have g := cnt_ge hi a
    have e1 : hit (l.getD i .zero).a (l.getD i .zero).o a = 1 := if_pos ⟨by omega, h2⟩
    have e2 : hit a o a = 1 := if_pos ⟨by omega, by omega⟩
    omega

/-- Pages that come back one by one. -/
theorem give_cnt : ∀ (n : Nat) (z : Zn) (a : Int), ZMay z → z.f ≤ a → a + n ≤ z.t → (∀ p, a ≤ p → cnt z.free p = 0) →
    ∃ Y, giveK n z a = some Y ∧ ZMay Y ∧ Y.f = z.f ∧ Y.t = z.t ∧ Y.types = z.types ∧ ∀ p, cnt Y.free p = cnt z.free p + (if a ≤ p ∧ p < a + n then 1 else 0) := by
  intro n
  induction n with
  | zero =>
    intro z a hM _ _ _
    refine ⟨z, rfl, hM, rfl, rfl, rfl, fun p => ?_⟩
    rw [if_neg (by omega)]
    rfl
  | succ n ih =>
    intro z a hM h1 h2 h3
    have hin := page_in (z := z) (p := a) h1 (by omega)
    have hah := (free_iff.1 hM.free).2
    have hno : ¬ ovlP z.free a 0 := by
      rintro ⟨i, hi, g1, g2⟩
      rw [pw_0] at g1
      have hq := pw_pos (z.free.getD i .zero).o
      have := h3 ((z.free.getD i .zero).a + pw (z.free.getD i .zero).o - 1) (by omega)
      have g := cnt_ge hi ((z.free.getD i .zero).a + pw (z.free.getD i .zero).o - 1)
      have e1 : hit (z.free.getD i .zero).a (z.free.getD i .zero).o ((z.free.getD i .zero).a + pw (z.free.getD i .zero).o - 1) = 1 := if_pos ⟨by omega, by omega⟩
      omega
    rw [give_some hno]
    have hc : ∀ p, cnt (backZ z a 0).free p = cnt z.free p + hit a 0 p := fun p => cnt_back hah (by omega) (by rw [pw_0]; omega) p
    obtain ⟨Y, e, k1, k2, k3, k4, k5⟩ := ih (backZ z a 0) (a + 1) (backZ_may hM hin hno) (by show z.f ≤ _; omega) (by show _ ≤ z.t; omega) (fun p hp => by
      rw [hc, h3 p (by omega)]
      unfold hit
      rw [pw_0, if_neg (by omega)])
    refine ⟨Y, e, k1, k2, k3, k4, fun p => ?_⟩
    rw [k5, hc]
    unfold hit
    rw [pw_0]
    repeat' split
    all_goals omega

end Go.Proofs.Ytbjlbmofdnkmiaa.Kit

/-
  OWN TEXT. A zone from which blocks were taken, and to which some came back: plain mathematics.
-/
namespace Go.Proofs.Ytbjlbmofdnkmiaa.Kit

/-- The zone, and the blocks that are away: no page is in two, all others are free. -/
structure ZI (z : Zn) (aw : List Bk) : Prop where
  may : ZMay z
  f : z.f = 16
  t : z.t = 112
  all : ∀ b ∈ aw, blkIn 16 112 b.a b.o
  cnt : ∀ p, cnt z.free p + cnt aw p = if 18 ≤ p ∧ p < 108 then 1 else 0

theorem ZI.sum {z : Zn} {aw : List Bk} (h : ZI z aw) (p : Int) : Kit.cnt z.free p + Kit.cnt aw p ≤ 1 := by
  rw [h.cnt p]
  split <;> omega

theorem getB_mem {l : List Bk} {k : Nat} (h : k < l.length) : l.getD k .zero ∈ l := by
  rw [List.getD_eq_getElem?_getD, List.getElem?_eq_getElem h]
  exact List.getElem_mem _

theorem cnt_erase {l : List Bk} {k : Nat} (h : k < l.length) (p : Int) : cnt (l.eraseIdx k) p + hit (l.getD k .zero).a (l.getD k .zero).o p = cnt l p := by
  have e : cnt l p = cnt (l.take k) p + (hit (l.getD k .zero).a (l.getD k .zero).o p + cnt (l.drop (k + 1)) p) := by
    conv => lhs; rw [cut_at l h]
    rw [cnt_append]
    rfl
  rw [e, List.eraseIdx_eq_take_drop_succ, cnt_append]
  omega

theorem zi_back {z : Zn} {aw : List Bk} (h : ZI z aw) {k : Nat} (hk : k < aw.length) {a o t : Int} (hb : aw.getD k .zero = ⟨a, o, t⟩) :
    blkIn z.f z.t a o ∧ ¬ ovlP z.free a o ∧ ZI (backZ z a o) (aw.eraseIdx k) := by
  have hin := h.all _ (getB_mem hk)
  rw [hb] at hin
  dsimp only at hin
  have hin' : blkIn z.f z.t a o := by rw [h.f, h.t]; exact hin
  have hc : ∀ p, cnt (aw.eraseIdx k) p + hit a o p = cnt aw p := fun p => by
    have := cnt_erase hk p
    rw [hb] at this
    exact this
  have hno : ¬ ovlP z.free a o := no_ovl fun p => by have := h.sum p; have := hc p; omega
  have hah := (free_iff.1 h.may.free).2
  refine ⟨hin', hno, backZ_may h.may hin' hno, h.f, h.t, fun b hb => h.all b (List.mem_of_mem_eraseIdx hb), fun p => ?_⟩
  rw [cnt_back hah hin.1.1 hin.2.2.2 p, ← h.cnt p, ← hc p]
  omega

theorem mod_down {a o b : Int} (hb : ordOk b) (h0 : 0 ≤ o) (h1 : o ≤ b) (h : a % pw b = 0) : a % pw o = 0 := by
  rcases ord_cases hb with ⟨rfl, e⟩ | ⟨rfl, e⟩ | ⟨rfl, e⟩ | ⟨rfl, e⟩ | ⟨rfl, e⟩ <;> rw [e] at h <;>
    rcases ord_cases (o := o) ⟨h0, by omega⟩ with ⟨rfl, e'⟩ | ⟨rfl, e'⟩ | ⟨rfl, e'⟩ | ⟨rfl, e'⟩ | ⟨rfl, e'⟩ <;> rw [e'] <;> omega

theorem zi_take {z : Zn} {aw : List Bk} (h : ZI z aw) {o t : Int} (ho : ordOk o) (ht : typeOk t) {i : Nat} (hC : chooseI z.free o t = i) :
    ZI (takeZ z o t i) (aw ++ [⟨(z.free.getD i .zero).a, o, 0⟩]) := by
  obtain ⟨j, e, hj, hob⟩ := choose_in (l := z.free) (o := o) (t := t) (by omega)
  obtain rfl : j = i := by omega
  obtain ⟨⟨b1, a1, a2, a3⟩, b2, _⟩ := freeOk_at h.may.free hj rfl
  have hM := takeZ_may h.may ho.1 ht hj b2 a1
  have hf : (takeZ z o t j).f = z.f := by unfold takeZ; dsimp only; split <;> rfl
  have htt : (takeZ z o t j).t = z.t := by unfold takeZ; dsimp only; split <;> rfl
  refine ⟨hM, hf.trans h.f, htt.trans h.t, fun b hb => ?_, fun p => ?_⟩
  · rcases List.mem_append.1 hb with hb | hb
    · exact h.all b hb
    · rw [List.mem_singleton] at hb
      subst hb
      dsimp only
      rw [h.f] at a1
      rw [h.t] at a2
      exact ⟨ho, a1, a2, mod_down b1 ho.1 hob a3⟩
  · rw [cnt_append, cnt_one, ← h.cnt p, ← cnt_take (t := t) hj ho.1 hob p]
    dsimp only
    omega

/-- The zone at the beginning. -/
def firstZ : Option Zn := giveK 90 (newZ 16 112) 18

theorem newZ_may {f t : Int} (h : newOk f t) : ZMay (newZ f t) := by
  obtain ⟨h1, h2, h3, h4, h5⟩ := h
  refine ⟨⟨h1, h2, h3, h4, h5⟩, ?_, ?_, trivial⟩
  · show 8 * ((newTypes f t).length : Int) = t - f
    unfold newTypes
    rw [List.length_replicate]
    omega
  · intro i hi
    have hi' : i < (newTypes f t).length := hi
    show typeOk ((newTypes f t).getD i 0)
    unfold newTypes at hi' ⊢
    rw [List.length_replicate] at hi'
    rw [List.getD_eq_getElem?_getD, List.getElem?_replicate, if_pos hi']
    exact ⟨by decide, by decide⟩

theorem zi_first : ∃ Y, firstZ = some Y ∧ ZI Y [] := by
  have hn : newOk 16 112 := ⟨by omega, by omega, by omega, by omega, by omega⟩
  obtain ⟨Y, e, k1, k2, k3, _, k5⟩ := give_cnt 90 (newZ 16 112) 18 (newZ_may hn) (by show (16 : Int) ≤ 18; omega) (by show (18 : Int) + (90 : Nat) ≤ 112; omega) (fun p _ => rfl)
  refine ⟨Y, e, k1, k2, k3, fun b hb => by simp at hb, fun p => ?_⟩
  rw [k5]
  have e0 : cnt (newZ 16 112).free p = 0 := rfl
  have e1 : cnt ([] : List Bk) p = 0 := rfl
  rw [e0, e1]
  simp only [Nat.zero_add, Nat.add_zero]
  split <;> split <;> omega

end Go.Proofs.Ytbjlbmofdnkmiaa.Kit

/-
  OWN TEXT. Blocks that are put together as often as they can be are told by their pages: plain mathematics.
-/
namespace Go.Proofs.Ytbjlbmofdnkmiaa.Kit

theorem hit_one {a o p : Int} : 0 < hit a o p ↔ a ≤ p ∧ p < a + pw o := by
  unfold hit
  split <;> simp_all
theorem cnt_pos {l : List Bk} {p : Int} : 0 < cnt l p ↔ ∃ b ∈ l, b.a ≤ p ∧ p < b.a + pw b.o := by
  induction l with
  | nil => simp [cnt]
  | cons x l ih =>
    constructor
    · intro h
      simp only [cnt] at h
      by_cases hx : 0 < hit x.a x.o p
      · exact ⟨x, by simp, hit_one.1 hx⟩
      · obtain ⟨b, hb, g⟩ := ih.1 (by omega)
        exact ⟨b, by simp [hb], g⟩
    · rintro ⟨b, hb, g⟩
      simp only [cnt]
      rcases List.mem_cons.1 hb with rfl | hb
      · have := hit_one.2 g; omega
      · have := ih.2 ⟨b, hb, g⟩; omega

/-- Two blocks of a list that rises. -/
theorem ahead_two {l : List Bk} (h : l.Pairwise Ahead) {p q : Bk} (hp : p ∈ l) (hq : q ∈ l) (hlt : p.a < q.a) : Ahead p q := by
  induction l with
  | nil => simp at hp
  | cons x l ih =>
    obtain ⟨h1, h2⟩ := List.pairwise_cons.1 h
    rcases List.mem_cons.1 hp with rfl | hp'
    · rcases List.mem_cons.1 hq with rfl | hq'
      · omega
      · exact h1 q hq'
    · rcases List.mem_cons.1 hq with rfl | hq'
      · have := (h1 p hp').1
        have := pw_pos q.o
        omega
      · exact ih h2 hp' hq'

/-- An aligned block that lies in a greater aligned one. -/
theorem up_in {a b k o : Int} (hk : ordOk k) (ho : ordOk o) (hko : k ≤ o) (ha : a % pw k = 0) (hb : b % pw o = 0) (h1 : b ≤ a) (h2 : a < b + pw o) : a + pw k ≤ b + pw o := by
  rcases ord_cases ho with ⟨rfl, e⟩ | ⟨rfl, e⟩ | ⟨rfl, e⟩ | ⟨rfl, e⟩ | ⟨rfl, e⟩ <;> rw [e] at hb h2 ⊢ <;>
    rcases ord_cases hk with ⟨rfl, f⟩ | ⟨rfl, f⟩ | ⟨rfl, f⟩ | ⟨rfl, f⟩ | ⟨rfl, f⟩ <;> rw [f] at ha ⊢ <;> omega

/-- Pages of an aligned block that are all in blocks lie in one. -/
theorem whole_in {f t : Int} {l : List Bk} (hl : AllIn f t l) (hA : l.Pairwise Ahead) : ∀ (k : Nat) (c : Int), k ≤ 4 → c % pw k = 0 → (∀ p, c ≤ p → p < c + pw k → 0 < cnt l p) → ∃ b ∈ l, b.a ≤ c ∧ c + pw k ≤ b.a + pw b.o := by
  intro k
  induction k with
  | zero =>
    intro c _ _ h
    have e : pw ((0 : Nat) : Int) = 1 := pw_0
    rw [e] at h ⊢
    obtain ⟨b, hb, g1, g2⟩ := cnt_pos.1 (h c (by omega) (by omega))
    exact ⟨b, hb, g1, by omega⟩
  | succ k ih =>
    intro c hk hc h
    have e : pw ((k + 1 : Nat) : Int) = 2 * pw (k : Int) := by
      rw [show ((k + 1 : Nat) : Int) = (k : Int) + 1 by omega]
      exact pw_succ _ (by omega)
    have hp := pw_pos (k : Int)
    have ok : ordOk (k : Int) := ⟨by omega, by omega⟩
    have ok1 : ordOk ((k + 1 : Nat) : Int) := ⟨by omega, by omega⟩
    have c1 : c % pw (k : Int) = 0 := mod_down ok1 (by omega) (by omega) hc
    have c2 : (c + pw (k : Int)) % pw (k : Int) = 0 := by rw [Int.add_emod_right]; exact c1
    rw [e] at h
    obtain ⟨b1, m1, g1, g2⟩ := ih c (by omega) c1 (fun p q1 q2 => h p q1 (by omega))
    obtain ⟨b2, m2, g3, g4⟩ := ih (c + pw (k : Int)) (by omega) c2 (fun p q1 q2 => h p (by omega) (by omega))
    obtain ⟨⟨o1, _, _, al1⟩, _⟩ := hl b1 m1
    obtain ⟨⟨o2, _, _, al2⟩, _⟩ := hl b2 m2
    by_cases s1 : ((k + 1 : Nat) : Int) ≤ b1.o
    · exact ⟨b1, m1, g1, up_in ok1 o1 s1 hc al1 g1 (by omega)⟩
    · by_cases s2 : ((k + 1 : Nat) : Int) ≤ b2.o
      · refine ⟨b2, m2, ?_, ?_⟩
        · have := pw_pos b2.o
          have hd : c % pw ((k + 1 : Nat) : Int) = 0 := hc
          -- the greater block that holds the upper half holds the lower one
          rcases ord_cases o2 with ⟨q, e2⟩ | ⟨q, e2⟩ | ⟨q, e2⟩ | ⟨q, e2⟩ | ⟨q, e2⟩ <;> rw [e2] at al2 g4 <;>
            rcases ord_cases ok1 with ⟨r, e3⟩ | ⟨r, e3⟩ | ⟨r, e3⟩ | ⟨r, e3⟩ | ⟨r, e3⟩ <;> rw [e3] at hd e <;> omega
        · omega
      · exfalso
        have e1 : pw b1.o ≤ pw (k : Int) := pw_mono (by omega)
        have e2 : pw b2.o ≤ pw (k : Int) := pw_mono (by omega)
        have q1 : b1.a = c := by omega
        have q2 : b2.a = c + pw (k : Int) := by omega
        have z1 : b1.o = k := by
          rcases ord_cases o1 with ⟨q, w1⟩ | ⟨q, w1⟩ | ⟨q, w1⟩ | ⟨q, w1⟩ | ⟨q, w1⟩ <;> rcases ord_cases ok with ⟨r, w2⟩ | ⟨r, w2⟩ | ⟨r, w2⟩ | ⟨r, w2⟩ | ⟨r, w2⟩ <;> rw [w1, w2] at e1 <;> rw [w1, w2] at g2 <;> omega
        have z2 : b2.o = k := by
          rcases ord_cases o2 with ⟨q, w1⟩ | ⟨q, w1⟩ | ⟨q, w1⟩ | ⟨q, w1⟩ | ⟨q, w1⟩ <;> rcases ord_cases ok with ⟨r, w2⟩ | ⟨r, w2⟩ | ⟨r, w2⟩ | ⟨r, w2⟩ | ⟨r, w2⟩ <;> rw [w1, w2] at e2 <;> rw [w1, w2] at g4 <;> omega
        have hah := ahead_two hA m1 m2 (by omega)
        refine hah.2 ⟨by omega, by omega, ?_, ?_⟩
        · rw [z2, q1, q2]
        · rw [z2, q1, show (k : Int) + 1 = ((k + 1 : Nat) : Int) by omega]; exact hc

theorem same_of {l : List Bk} (hA : l.Pairwise Ahead) {p q : Bk} (hp : p ∈ l) (hq : q ∈ l) (h1 : q.a ≤ p.a) (h2 : p.a < q.a + pw q.o) : p = q := by
  by_cases e : p.a = q.a
  · induction l with
    | nil => simp at hp
    | cons x l ih =>
      obtain ⟨k1, k2⟩ := List.pairwise_cons.1 hA
      have px := pw_pos x.o
      rcases List.mem_cons.1 hp with rfl | hp'
      · rcases List.mem_cons.1 hq with rfl | hq'
        · rfl
        · have := (k1 q hq').1; omega
      · rcases List.mem_cons.1 hq with rfl | hq'
        · have := (k1 p hp').1; omega
        · exact ih k2 hp' hq'
  · have := (ahead_two hA hq hp (by omega)).1
    omega

/-- A block of the one is a block of the other. -/
theorem in_other {f t : Int} {l m : List Bk} (hl : AllIn f t l) (hlA : l.Pairwise Ahead) (hm : AllIn f t m) (hmA : m.Pairwise Ahead) (hc : ∀ p, cnt l p = cnt m p) {b : Bk} (hb : b ∈ l) : ∃ b' ∈ m, b'.a = b.a ∧ b'.o = b.o := by
  obtain ⟨⟨⟨o0, o4⟩, _, _, al⟩, _⟩ := hl b hb
  have e : ((b.o.toNat : Nat) : Int) = b.o := by omega
  obtain ⟨b', hb', g1, g2⟩ := whole_in hm hmA b.o.toNat b.a (by omega) (by rw [e]; exact al) (fun p q1 q2 => by
    rw [e] at q2
    rw [← hc]
    exact cnt_pos.2 ⟨b, hb, q1, q2⟩)
  rw [e] at g2
  obtain ⟨⟨⟨o0', o4'⟩, _, _, al'⟩, _⟩ := hm b' hb'
  have e' : ((b'.o.toNat : Nat) : Int) = b'.o := by omega
  obtain ⟨b2, hb2, g3, g4⟩ := whole_in hl hlA b'.o.toNat b'.a (by omega) (by rw [e']; exact al') (fun p q1 q2 => by
    rw [e'] at q2
    rw [hc]
    exact cnt_pos.2 ⟨b', hb', q1, q2⟩)
  rw [e'] at g4
  have hp := pw_pos b.o
  have hp' := pw_pos b'.o
  have hs : b = b2 := same_of hlA hb hb2 (by omega) (by omega)
  subst hs
  have ea : b'.a = b.a := by omega
  refine ⟨b', hb', ea, ?_⟩
  have ep : pw b'.o = pw b.o := by omega
  rcases ord_cases (o := b.o) ⟨o0, o4⟩ with ⟨q, w1⟩ | ⟨q, w1⟩ | ⟨q, w1⟩ | ⟨q, w1⟩ | ⟨q, w1⟩ <;> rcases ord_cases (o := b'.o) ⟨o0', o4'⟩ with ⟨r, w2⟩ | ⟨r, w2⟩ | ⟨r, w2⟩ | ⟨r, w2⟩ | ⟨r, w2⟩ <;> rw [w1, w2] at ep <;> omega

theorem rise_eq : ∀ (l m : List (Int × Int)), l.Pairwise (fun x y => x.1 < y.1) → m.Pairwise (fun x y => x.1 < y.1) → (∀ x, x ∈ l ↔ x ∈ m) → l = m := by
  intro l
  induction l with
  | nil =>
    intro m _ _ h
    cases m with
    | nil => rfl
    | cons y m => exact absurd ((h y).2 (by simp)) (by simp)
  | cons x l ih =>
    intro m hl hm h
    cases m with
    | nil => exact absurd ((h x).1 (by simp)) (by simp)
    | cons y m =>
      obtain ⟨a1, a2⟩ := List.pairwise_cons.1 hl
      obtain ⟨b1, b2⟩ := List.pairwise_cons.1 hm
      have hxy : x = y := by
        rcases List.mem_cons.1 ((h x).1 (by simp)) with e | e
        · exact e
        · rcases List.mem_cons.1 ((h y).2 (by simp)) with e' | e'
          · exact e'.symm
          · have := b1 x e; have := a1 y e'; omega
      subst hxy
      rw [ih m a2 b2 fun z => ?_]
      constructor
      · intro hz
        rcases List.mem_cons.1 ((h z).1 (by simp [hz])) with e | e
        · have := a1 z hz; rw [e] at this; omega
        · exact e
      · intro hz
        rcases List.mem_cons.1 ((h z).2 (by simp [hz])) with e | e
        · have := b1 z hz; rw [e] at this; omega
        · exact e

/-- The places and orders. -/
def ao (l : List Bk) : List (Int × Int) := l.map fun b => (b.a, b.o)

theorem free_unique {z y : Zn} (hz : ZMay z) (hy : ZMay y) (hf : z.f = y.f) (ht : z.t = y.t) (hc : ∀ p, cnt z.free p = cnt y.free p) : ao z.free = ao y.free := by
  obtain ⟨z1, z2⟩ := free_iff.1 hz.free
  obtain ⟨y1, y2⟩ := free_iff.1 hy.free
  rw [hf, ht] at z1
  have inc : ∀ l : List Bk, l.Pairwise Ahead → (ao l).Pairwise (fun x y => x.1 < y.1) := fun l h => by
    unfold ao
    rw [List.pairwise_map]
    exact h.imp fun {a b} hab => by have := hab.1; have := pw_pos a.o; show a.a < b.a; omega
  refine rise_eq _ _ (inc _ z2) (inc _ y2) fun x => ?_
  unfold ao
  rw [List.mem_map, List.mem_map]
  constructor
  · rintro ⟨b, hb, rfl⟩
    obtain ⟨b', hb', e1, e2⟩ := in_other z1 z2 y1 y2 hc hb
    exact ⟨b', hb', by rw [e1, e2]⟩
  · rintro ⟨b, hb, rfl⟩
    obtain ⟨b', hb', e1, e2⟩ := in_other y1 y2 z1 z2 (fun p => (hc p).symm) hb
    exact ⟨b', hb', by rw [e1, e2]⟩

end Go.Proofs.Ytbjlbmofdnkmiaa.Kit

/-
  OWN TEXT. Pages of a heap, counted; blocks and pages of lists may go back: plain mathematics.
-/
namespace Go.Proofs.Ytbjlbmofdnkmiaa
open Go.Proofs.Ytbjlbmofdnkmiaa.Kit

theorem apt_cnt : ∀ (l P : List Bk), Apt P l → (∀ p, cnt P p ≤ 1) → ∀ p, cnt (P ++ l) p ≤ 1
  | [], P, _, hP, p => by simpa using hP p
  | b :: l, P, h, hP, p => by
    rw [show b :: l = [b] ++ l from rfl, apt_append, apt_one] at h
    have h1 : ∀ p, cnt (P ++ [b]) p ≤ 1 := fun p => by
      rw [cnt_append, cnt_one]
      have hp := hP p
      by_cases c : hit b.a b.o p = 0
      · omega
      · have hh := hit_one.1 (Nat.pos_of_ne_zero c)
        have h0 : cnt P p = 0 := by
          by_cases g : cnt P p = 0
          · exact g
          · obtain ⟨x, hx, h1, h2⟩ := cnt_pos.1 (Nat.pos_of_ne_zero g)
            exact absurd ((ovlP_mem P b.a b.o).2 ⟨x, hx, by omega, by omega⟩) h.1
        have h1 : hit b.a b.o p ≤ 1 := by unfold hit; split <;> omega
        omega
    have := apt_cnt l (P ++ [b]) h.2 h1 p
    rwa [List.append_assoc] at this
theorem cnt_apt {P l : List Bk} (h : ∀ p, cnt (P ++ l) p ≤ 1) : Apt P l := by
  intro k hk
  refine no_ovl fun p => ?_
  have e : cnt (P ++ l) p = cnt (P ++ l.take k) p + (hit (l.getD k .zero).a (l.getD k .zero).o p + cnt (l.drop (k + 1)) p) := by
    conv => lhs; rw [cut_at l hk]
    rw [← List.append_assoc, cnt_append]
    rfl
  have := h p
  omega

theorem zs_two {H : Hp} (h : H.zones.length = 2) : H.zones = [H.zones.getD 0 ⟨0, 0, [], []⟩, H.zones.getD 1 ⟨0, 0, [], []⟩] := by
  obtain ⟨zs, _, _, _, _⟩ := H
  dsimp only at h ⊢
  match zs, h with
  | [a, b], _ => rfl
/-- How many free blocks have a page. -/
def zcnt (H : Hp) (p : Int) : Nat := cnt (H.zones.flatMap (·.free)) p
theorem zcnt_two {H : Hp} (h : H.zones.length = 2) (p : Int) : zcnt H p = cnt (H.zones.getD 0 ⟨0, 0, [], []⟩).free p + cnt (H.zones.getD 1 ⟨0, 0, [], []⟩).free p := by
  unfold zcnt
  rw [zs_two h]
  simp [cnt_append]

/-- A BLOCK GOES BACK: it may, and the zones stay such that may be. -/
theorem backH_ok {H : Hp} (hz : ZsOk H) {a o : Int} (ho : ordOk o) (hm : a % pw o = 0) (h0 : 0 ≤ a) (h1 : a < 256) (hc : ∀ p, zcnt H p + hit a o p ≤ 1) :
    CanBack H a o ∧ ZsOk (backH H a o) ∧ ∀ p, zcnt (backH H a o) p = zcnt H p + hit a o p := by
  have hc' : ∀ p, cnt (H.zones.getD 0 ⟨0, 0, [], []⟩).free p + cnt (H.zones.getD 1 ⟨0, 0, [], []⟩).free p + hit a o p ≤ 1 := fun p => by
    have := hc p
    rwa [zcnt_two hz.n] at this
  have e := zs_two hz.n
  obtain ⟨zs, mins, cpus, ls, live⟩ := H
  dsimp only at e hc'
  obtain ⟨z0, hz0⟩ : ∃ z, zs.getD 0 ⟨0, 0, [], []⟩ = z := ⟨_, rfl⟩
  obtain ⟨z1, hz1⟩ : ∃ z, zs.getD 1 ⟨0, 0, [], []⟩ = z := ⟨_, rfl⟩
  rw [hz0, hz1] at e hc'
  subst e
  clear hz0 hz1 hc
  have m0 : ZMay z0 := hz.m0
  have m1 : ZMay z1 := hz.m1
  have f0 : z0.f = 0 := hz.f0
  have f1 : z1.f = z0.t := hz.f1
  have t1 : z1.t = 256 := hz.t1
  by_cases ha : a < z0.t
  · have ei : zIdx ⟨[z0, z1], mins, cpus, ls, live⟩ a = 0 := if_pos ha
    have hno : ¬ ovlP z0.free a o := no_ovl fun p => by have := hc' p; omega
    have hin : blkIn z0.f z0.t a o := ⟨ho, by omega, by omega, hm⟩
    have eb : backH ⟨[z0, z1], mins, cpus, ls, live⟩ a o = ⟨[backZ z0 a o, z1], mins, cpus, ls, live⟩ := by unfold backH; rw [ei]; rfl
    have hcb := cnt_back (free_iff.1 m0.free).2 ho.1 hm
    refine ⟨⟨rfl, by rw [ei]; exact m0, by rw [ei]; exact hin, by rw [ei]; exact hno⟩, ?_⟩
    rw [eb]
    refine ⟨⟨rfl, backZ_may m0 hin hno, m1, f0, f1, t1⟩, fun p => ?_⟩
    rw [zcnt_two rfl, zcnt_two rfl]
    have := hcb p
    show cnt (backZ z0 a o).free p + cnt z1.free p = cnt z0.free p + cnt z1.free p + hit a o p
    omega
  · have ei : zIdx ⟨[z0, z1], mins, cpus, ls, live⟩ a = 1 := if_neg ha
    have hno : ¬ ovlP z1.free a o := no_ovl fun p => by have := hc' p; omega
    have hin : blkIn z1.f z1.t a o := ⟨ho, by omega, by omega, hm⟩
    have eb : backH ⟨[z0, z1], mins, cpus, ls, live⟩ a o = ⟨[z0, backZ z1 a o], mins, cpus, ls, live⟩ := by unfold backH; rw [ei]; rfl
    have hcb := cnt_back (free_iff.1 m1.free).2 ho.1 hm
    refine ⟨⟨rfl, by rw [ei]; exact m1, by rw [ei]; exact hin, by rw [ei]; exact hno⟩, ?_⟩
    rw [eb]
    refine ⟨⟨rfl, m0, backZ_may m1 hin hno, f0, f1, t1⟩, fun p => ?_⟩
    rw [zcnt_two rfl, zcnt_two rfl]
    have := hcb p
    show cnt z0.free p + cnt (backZ z1 a o).free p = cnt z0.free p + cnt z1.free p + hit a o p
    omega
/-- PAGES GO BACK one by one. -/
theorem backs_ok : ∀ (l : List Int) (H : Hp), ZsOk H → (∀ p ∈ l, 0 ≤ p ∧ p < 256) → (∀ p, zcnt H p + cnt (l.map pgB) p ≤ 1) →
    CanBacks H l ∧ ZsOk (backs H l) ∧ ∀ p, zcnt (backs H l) p = zcnt H p + cnt (l.map pgB) p
  | [], H, hz, _, _ => ⟨trivial, hz, fun p => by simp [backs, cnt]⟩
  | a :: l, H, hz, hr, hc => by
    have hc' : ∀ p, zcnt H p + (hit a 0 p + cnt (l.map pgB) p) ≤ 1 := hc
    have ha := hr a (by simp)
    obtain ⟨h1, h2, h3⟩ := backH_ok hz (a := a) (o := 0) ⟨by omega, by omega⟩ (by rw [pw_0]; omega) ha.1 ha.2 (fun p => by have := hc' p; omega)
    obtain ⟨k1, k2, k3⟩ := backs_ok l (backH H a 0) h2 (fun p hp => hr p (by simp [hp])) (fun p => by rw [h3]; have := hc' p; omega)
    refine ⟨⟨h1, k1⟩, k2, fun p => ?_⟩
    show zcnt (backs (backH H a 0) l) p = zcnt H p + (hit a 0 p + cnt (l.map pgB) p)
    rw [k3, h3]
    omega

theorem Kit.HMay.cntLe {H : Hp} (h : HMay H) (p : Int) : zcnt H p + (Kit.cnt ((H.lists.flatMap (·.pages)).map pgB) p + Kit.cnt H.live p) ≤ 1 := by
  have := apt_cnt _ _ h.apart (fun p => by simp [Kit.cnt]) p
  unfold placed at this
  rw [List.nil_append, cnt_append, cnt_append] at this
  rw [List.map_flatMap]
  exact this
theorem Kit.HMay.pageR {H : Hp} (h : HMay H) {p : Int} (hp : p ∈ H.lists.flatMap (·.pages)) : 0 ≤ p ∧ p < 256 := by
  obtain ⟨L, hL, hp⟩ := List.mem_flatMap.1 hp
  obtain ⟨i, hi, rfl⟩ := List.getElem_of_mem hL
  obtain ⟨j, hj, rfl⟩ := List.getElem_of_mem hp
  have hk := h.ls.ok i hi
  rw [List.getD_eq_getElem?_getD, List.getElem?_eq_getElem hi] at hk
  simp only [Option.getD_some] at hk
  have hq := hk.p j hj
  rw [List.getD_eq_getElem?_getD (l := (H.lists[i]).pages), List.getElem?_eq_getElem hj] at hq
  simp only [Option.getD_some] at hq
  have hz := hk.z
  have z0 := h.zs.m0.new
  have z1 := h.zs.m1.new
  unfold newOk at z0 z1
  have f0 := h.zs.f0
  have f1 := h.zs.f1
  have t1 := h.zs.t1
  rcases (show (H.lists[i]).z = 0 ∨ (H.lists[i]).z = 1 by omega) with e | e <;> rw [e] at hq
  · have hq' : (H.zones.getD 0 ⟨0, 0, [], []⟩).f ≤ (H.lists[i]).pages[j] ∧ (H.lists[i]).pages[j] < (H.zones.getD 0 ⟨0, 0, [], []⟩).t := hq
    omega
  · have hq' : (H.zones.getD 1 ⟨0, 0, [], []⟩).f ≤ (H.lists[i]).pages[j] ∧ (H.lists[i]).pages[j] < (H.zones.getD 1 ⟨0, 0, [], []⟩).t := hq
    omega
/-- The pages of all lists may go back. -/
theorem Kit.HMay.canBacks {H : Hp} (h : HMay H) : CanBacks H (H.lists.flatMap (·.pages)) ∧ ZsOk (backs H (H.lists.flatMap (·.pages))) ∧ ∀ p, zcnt (backs H (H.lists.flatMap (·.pages))) p = zcnt H p + Kit.cnt ((H.lists.flatMap (·.pages)).map pgB) p :=
  backs_ok _ H h.zs (fun _ hp => h.pageR hp) (fun p => by have := h.cntLe p; omega)

end Go.Proofs.Ytbjlbmofdnkmiaa

/-
  OWN TEXT. The type of a page's group.
-/
namespace Go.Proofs.Ytbjlbmofdnkmiaa.Kit

/-- The type of the group of a page. -/
def typeZ (z : Zn) (a : Int) : Int := z.types.getD ((a - z.f) / 8).toNat 0

end Go.Proofs.Ytbjlbmofdnkmiaa.Kit

/-
  OWN TEXT. Contract of the code: buddy.TypeAt.
-/
namespace Go.Proofs.Ytbjlbmofdnkmiaa
open Go Go.RowKit Go.Proofs.Ytbjlbmofdnkmiaa.Kit

set_option maxHeartbeats 1000000 in
theorem zTypeAt_ok (w : World) (fo : Option Addr) (fn fc : Nat) (to_ : Option Addr) (tn tc : Nat) (z : Zn) (a : Int) (h : ZnAt w fo fn to_ tn z) (hM : ZMay z) (ha : z.f ≤ a ∧ a ≤ z.t - 1) :
    Calls Try.prog 85 #[.agg #[.int .i64 z.f, .int .i64 z.t, .slice fo fn fc, .slice to_ tn tc], .int .i64 a] w fun e w' => e = .returned (.tuple #[.int .i64 (typeZ z a), .int .i64 0]) ∧ Below w.heap.size w w' := by
  have I0 := ckInv_first w fo fn fc to_ tn tc z h
  have c0 := I0.box.c0
  have c1 := I0.box.c1
  have c2 := I0.box.c2
  have c3 := I0.box.c3
  have e2 : Hid (inB a z.f (z.t - 1) = true) := inB_t ha
  obtain ⟨n1, n2, n3, n4, n5⟩ := hM.new
  have hlen := hM.len
  have htl := h.types.len
  have htr := h.types.reach
  obtain ⟨K, hK⟩ : ∃ K : Nat, (a - z.f) / 8 = (K : Int) := ⟨((a - z.f) / 8).toNat, by omega⟩
  have hKn : K < tn := by omega
  have hKi : (K : Int) < (tn : Int) := by omega
  have HT : Hid (typeZ z a = z.types.getD K 0) := by show _ = _; unfold typeZ; rw [hK]; rfl
  clear h
  go_enter Try.func85, Try.ntmps85
  go_wp2_with fail
  go_at_call 63
  refine (zCheck_ok _ fo fn fc to_ tn tc z I0.zn hM).mono ?_
  rintro e w1 ⟨rfl, hb1⟩
  have I1 := I0.step hb1
  clear I0 c0 c1 c2 c3 hb1 hM
  have c0 := I1.box.c0
  have c1 := I1.box.c1
  have c2 := I1.box.c2
  have c3 := I1.box.c3
  go_wp2_with fail
  go_at_call 101
  refine (isPage_any _ _ _ _ _ _ _ _ _ _).mono ?_
  rintro e w2 ⟨rfl, hb2⟩
  rw [e2.out]
  have I2 := I1.step hb2
  clear I1 c0 c1 c2 c3 hb2
  have c0 := I2.box.c0
  have c1 := I2.box.c1
  have c2 := I2.box.c2
  have c3 := I2.box.c3
  obtain ⟨b, o, x, rfl, cx, hX⟩ := I2.zn.types.at_.at K (by omega)
  have HT2 : Hid (typeZ z a = x) := HT.out.trans hX.out
  have m0 : ∀ wx, Below w2.heap.size w2 wx → wx.cell? ⟨w.heap.size, 0, none⟩ = some (.int .i64 z.f) := fun wx h => keep c0 h
  have m1 : ∀ wx, Below w2.heap.size w2 wx → wx.cell? ⟨w.heap.size, 1, none⟩ = some (.int .i64 z.t) := fun wx h => keep c1 h
  have m2 : ∀ wx, Below w2.heap.size w2 wx → wx.cell? ⟨w.heap.size, 2, none⟩ = some (.slice fo fn fc) := fun wx h => keep c2 h
  have m3 : ∀ wx, Below w2.heap.size w2 wx → wx.cell? ⟨w.heap.size, 3, none⟩ = some (.slice (some ⟨b, o, none⟩) tn tc) := fun wx h => keep c3 h
  have m4 : ∀ wx, Below w2.heap.size w2 wx → wx.cell? ⟨b, o + K, none⟩ = some (.int .i64 x) := fun wx h => keep cx h
  have HG : Hid (∀ W, Below w2.heap.size w2 W → Calls Try.prog 95 #[.agg #[.int .i64 z.f, .int .i64 z.t, .slice fo fn fc, .slice (some ⟨b, o, none⟩) tn tc], .int .i64 a] W fun e w' => e = .returned (.int .i64 K) ∧ Below w2.heap.size w2 w') := fun W hS => by
    rw [← hK]
    refine (group_any W z.f z.t fo _ fn fc tn tc a n1 ha.1 (by omega)).mono ?_
    rintro e w' ⟨rfl, hb⟩
    exact ⟨rfl, hS.trans (hb.mono hS.size)⟩
  have S0 : Below w2.heap.size w2 w2 := Below.refl _ _
  have hB2 := I2.b
  clear HT hX hK I2 c0 c1 c2 c3 cx
  go_wp2_with fail
  go_region_held3 (fun wx => Below w2.heap.size w2 wx) (first | assumption | exact Below.drew (by assumption))
    (first
      | (go_at_call 95; refine (HG.out _ ?_).mono ?_; assumption; rintro e w3 ⟨rfl, hS3⟩))
  all_goals
    have hbb := hB2.trans (hS3.mono hB2.size)
    clear HG m0 m1 m2 m3 m4 S0
    go_wp2
    go_ret2
    exact ⟨by rw [HT2.out]; rfl, hbb⟩

set_option maxHeartbeats 1000000 in
theorem zTypeAt_range (w : World) (fo : Option Addr) (fn fc : Nat) (to_ : Option Addr) (tn tc : Nat) (z : Zn) (a : Int) (h : ZnAt w fo fn to_ tn z) (hM : ZMay z) (ha : ¬ (z.f ≤ a ∧ a ≤ z.t - 1)) :
    Calls Try.prog 85 #[.agg #[.int .i64 z.f, .int .i64 z.t, .slice fo fn fc, .slice to_ tn tc], .int .i64 a] w fun e w' => e = .returned (.tuple #[.int .i64 0, .int .i64 1]) ∧ Below w.heap.size w w' := by
  have I0 := ckInv_first w fo fn fc to_ tn tc z h
  have c0 := I0.box.c0
  have c1 := I0.box.c1
  have c2 := I0.box.c2
  have c3 := I0.box.c3
  have e2 : Hid (inB a z.f (z.t - 1) = false) := inB_f ha
  clear h ha
  go_enter Try.func85, Try.ntmps85
  go_wp2_with fail
  go_at_call 63
  refine (zCheck_ok _ fo fn fc to_ tn tc z I0.zn hM).mono ?_
  rintro e w1 ⟨rfl, hb1⟩
  have I1 := I0.step hb1
  clear I0 c0 c1 c2 c3 hb1 hM
  have c0 := I1.box.c0
  have c1 := I1.box.c1
  have c2 := I1.box.c2
  have c3 := I1.box.c3
  go_wp2_with fail
  go_at_call 101
  refine (isPage_any _ _ _ _ _ _ _ _ _ _).mono ?_
  rintro e w2 ⟨rfl, hb2⟩
  rw [e2.out]
  have hbb := (I1.step hb2).b
  clear I1 c0 c1 c2 c3 hb2
  go_wp2
  go_ret2
  exact ⟨rfl, hbb⟩

set_option maxHeartbeats 1000000 in
theorem zTypeAt_no (w : World) (fo : Option Addr) (fn fc : Nat) (to_ : Option Addr) (tn tc : Nat) (z : Zn) (a : Int) (h : ZnAt w fo fn to_ tn z) (hf : ZFits z) (hM : ¬ ZMay z) :
    Calls Try.prog 85 #[.agg #[.int .i64 z.f, .int .i64 z.t, .slice fo fn fc, .slice to_ tn tc], .int .i64 a] w fun e w' => e = .returned (.tuple #[.int .i64 0, .int .i64 8]) ∧ Below w.heap.size w w' := by
  have I0 := ckInv_first w fo fn fc to_ tn tc z h
  have c0 := I0.box.c0
  have c1 := I0.box.c1
  have c2 := I0.box.c2
  have c3 := I0.box.c3
  clear h
  go_enter Try.func85, Try.ntmps85
  go_wp2_with fail
  go_at_call 63
  refine (zCheck_no _ fo fn fc to_ tn tc z I0.zn hf hM).mono ?_
  rintro e w1 ⟨rfl, hb1⟩
  have hbb := (I0.step hb1).b
  clear I0 c0 c1 c2 c3 hb1 hM hf
  go_wp2
  go_ret2
  exact ⟨rfl, hbb⟩

end Go.Proofs.Ytbjlbmofdnkmiaa
