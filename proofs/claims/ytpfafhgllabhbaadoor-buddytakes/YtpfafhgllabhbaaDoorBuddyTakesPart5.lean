/-
  OWN TEXTS, bundled: ZTkP2, ZStP, ZTkP3, ZTkQ, ZcTake0, ZcGroup, ZcSteal, BDel, ZcJoin, BCon.
-/
import Derived.Test.YtpfafhgllabhbaaDoorBuddyTakesPart4
import Derived.Test.YtpfafhgllabhbaaDoorBuddyTakesPart2
import Derived.Test.YtpfafhgllabhbaaDoorBuddyTakesPart3
import Derived.Deep.RegionHeld3

/-
  OWN TEXT. What is left free when a block is taken may be: plain mathematics.
-/
namespace Go.Proofs.YtpfafhgllabhbaaDoor.Kit

theorem halves_mem {a t o : Int} {m : Nat} {x : Bk} (h : x ∈ halvesL a t o m) : ∃ k : Nat, k < m ∧ x = ⟨a + pw (o + k), o + k, t⟩ := by
  induction m with
  | zero => simp [halvesL] at h
  | succ m ih =>
    unfold halvesL at h
    rcases List.mem_append.1 h with h | h
    · obtain ⟨k, hk, e⟩ := ih h
      exact ⟨k, by omega, e⟩
    · exact ⟨m, by omega, by simpa using h⟩

theorem pw_mono {i j : Int} (h : i ≤ j) : pw i ≤ pw j := by
  unfold pw
  exact Int.ofNat_le.2 (Nat.pow_le_pow_right (by decide) (by omega))

theorem halves_ahead (a t o : Int) (ho : 0 ≤ o) (m : Nat) : (halvesL a t o m).Pairwise Ahead := by
  induction m with
  | zero => exact List.Pairwise.nil
  | succ m ih =>
    unfold halvesL
    refine List.pairwise_append.2 ⟨ih, List.pairwise_singleton _ _, ?_⟩
    intro x hx y hy
    obtain ⟨k, hk, rfl⟩ := halves_mem hx
    have hy' : y = ⟨a + pw (o + m), o + m, t⟩ := by simpa using hy
    subst hy'
    refine ⟨?_, fun hb => ?_⟩
    · have h1 := pw_succ (o + k) (by omega)
      have h2 := pw_mono (i := o + k + 1) (j := o + m) (by omega)
      show a + pw (o + k) + pw (o + k) ≤ a + pw (o + m)
      omega
    · have h3 : o + (k : Int) = o + m := hb.2.1
      omega

theorem upper_odd {a k bo : Int} (hb : ordOk bo) (h0 : 0 ≤ k) (h1 : k < bo) (ha : a % pw bo = 0) : (a + pw k) % pw (k + 1) ≠ 0 := by
  rw [pw_succ k h0]
  rcases ord_cases hb with ⟨e, p⟩ | ⟨e, p⟩ | ⟨e, p⟩ | ⟨e, p⟩ | ⟨e, p⟩ <;> rw [p] at ha <;>
    rcases ord_cases (o := k) ⟨h0, by obtain ⟨_, _⟩ := hb; omega⟩ with ⟨e', p'⟩ | ⟨e', p'⟩ | ⟨e', p'⟩ | ⟨e', p'⟩ | ⟨e', p'⟩ <;> rw [p'] <;> omega

theorem take_ahead {f z : Int} (p q : List Bk) (b : Bk) (t o : Int) (ho : 0 ≤ o) (hi : AllIn f z (p ++ b :: q)) (hr : (p ++ b :: q).Pairwise Ahead) :
    (p ++ halvesL b.a t o (b.o - o).toNat ++ q).Pairwise Ahead := by
  obtain ⟨h1, h2, h3⟩ := List.pairwise_append.1 hr
  obtain ⟨h4, h5⟩ := List.pairwise_cons.1 h2
  obtain ⟨⟨hbo, hba, hbz, hal⟩, _⟩ := hi b (by simp)
  refine List.pairwise_append.2 ⟨List.pairwise_append.2 ⟨h1, halves_ahead _ _ _ ho _, ?_⟩, h5, ?_⟩
  · intro x hx y hy
    obtain ⟨k, hk, rfl⟩ := halves_mem hy
    have hxb := (h3 x hx b (by simp)).1
    have hp := pw_pos (o + k)
    have hpx := pw_pos x.o
    refine ⟨?_, fun hb => ?_⟩
    · show x.a + pw x.o ≤ b.a + pw (o + k)
      omega
    · have h6 : x.a + pw (o + k) = b.a + pw (o + k) := hb.2.2.1
      omega
  · intro x hx y hy
    rcases List.mem_append.1 hx with hx | hx
    · exact h3 x hx y (by simp [hy])
    · obtain ⟨k, hk, rfl⟩ := halves_mem hx
      have hby := (h4 y hy).1
      have h6 := pw_succ (o + k) (by omega)
      have h7 := pw_mono (i := o + k + 1) (j := b.o) (by omega)
      refine ⟨?_, fun hb => ?_⟩
      · show b.a + pw (o + k) + pw (o + k) ≤ y.a
        omega
      · have h8 : o + (k : Int) = y.o := hb.2.1
        have h9 : (b.a + pw (o + k)) % pw (y.o + 1) = 0 := hb.2.2.2
        rw [← h8] at h9
        exact upper_odd hbo (by omega) (by omega) hal h9

theorem take_in {f z : Int} (p q : List Bk) (b : Bk) (t o : Int) (ho : 0 ≤ o) (ht : typeOk t) (hz : z % 16 = 0) (hi : AllIn f z (p ++ b :: q)) :
    AllIn f z (p ++ halvesL b.a t o (b.o - o).toNat ++ q) := by
  intro x hx
  obtain ⟨⟨hbo, hba, hbz, hal⟩, _⟩ := hi b (by simp)
  rcases List.mem_append.1 hx with hx | hx
  · rcases List.mem_append.1 hx with hx | hx
    · exact hi x (by simp [hx])
    · obtain ⟨k, hk, rfl⟩ := halves_mem hx
      have hK : o + (k : Int) < b.o := by omega
      have hK0 : 0 ≤ o + (k : Int) := by omega
      obtain ⟨K, e⟩ : ∃ K, o + (k : Int) = K := ⟨_, rfl⟩
      rw [e] at hK hK0 ⊢
      have hb4 := hbo.2
      have hK4 : K ≤ 4 := by omega
      refine ⟨⟨⟨hK0, hK4⟩, ?_, ?_, ?_⟩, ht⟩
      · show f ≤ b.a + pw K
        have := pw_pos K
        omega
      · show b.a + pw K ≤ z - 1
        rcases ord_cases hbo with ⟨e1, e2⟩ | ⟨e1, e2⟩ | ⟨e1, e2⟩ | ⟨e1, e2⟩ | ⟨e1, e2⟩ <;> rw [e2] at hal <;>
          rcases ord_cases (o := K) ⟨hK0, hK4⟩ with ⟨e3, e4⟩ | ⟨e3, e4⟩ | ⟨e3, e4⟩ | ⟨e3, e4⟩ | ⟨e3, e4⟩ <;> rw [e4] <;> omega
      · show (b.a + pw K) % pw K = 0
        rcases ord_cases hbo with ⟨e1, e2⟩ | ⟨e1, e2⟩ | ⟨e1, e2⟩ | ⟨e1, e2⟩ | ⟨e1, e2⟩ <;> rw [e2] at hal <;>
          rcases ord_cases (o := K) ⟨hK0, hK4⟩ with ⟨e3, e4⟩ | ⟨e3, e4⟩ | ⟨e3, e4⟩ | ⟨e3, e4⟩ | ⟨e3, e4⟩ <;> rw [e4] <;> omega
  · exact hi x (by simp [hx])

end Go.Proofs.YtpfafhgllabhbaaDoor.Kit

/-
  OWN TEXT. Groups that are stolen, with all that is free in them: plain mathematics.
-/
namespace Go.Proofs.YtpfafhgllabhbaaDoor.Kit

/-- c types, from F on, are t. -/
def setR (ty : List Int) (F : Nat) (t : Int) : Nat → List Int
  | 0 => ty
  | c + 1 => (setR ty F t c).set (F + c) t
theorem setR_len (ty : List Int) (F : Nat) (t : Int) (c : Nat) : (setR ty F t c).length = ty.length := by
  induction c with
  | zero => rfl
  | succ c ih => simp [setR, ih]
/-- A block of the groups F to L is of type t. -/
def stealB (f F L t : Int) (b : Bk) : Bk := if F ≤ (b.a - f) / 8 ∧ (b.a - f) / 8 ≤ L then ⟨b.a, b.o, t⟩ else b
theorem stealB_a (f F L t : Int) (b : Bk) : (stealB f F L t b).a = b.a := by unfold stealB; split <;> rfl
theorem stealB_o (f F L t : Int) (b : Bk) : (stealB f F L t b).o = b.o := by unfold stealB; split <;> rfl
/-- The first i of them. -/
def stealK (f F L t : Int) (l : List Bk) (i : Nat) : List Bk := (l.take i).map (stealB f F L t) ++ l.drop i
theorem stealK_0 (f F L t : Int) (l : List Bk) : stealK f F L t l 0 = l := by simp [stealK]
theorem stealK_all (f F L t : Int) (l : List Bk) : stealK f F L t l l.length = l.map (stealB f F L t) := by simp [stealK]
theorem stealK_len (f F L t : Int) (l : List Bk) (i : Nat) : (stealK f F L t l i).length = l.length := by simp [stealK]; omega
theorem stealK_at (f F L t : Int) {l : List Bk} {i : Nat} (h : i < l.length) : (stealK f F L t l i).getD i .zero = l.getD i .zero := by
  unfold stealK
  rw [List.getD_eq_getElem?_getD, List.getD_eq_getElem?_getD, List.getElem?_append_right (by simp; omega)]
  simp [List.getElem?_drop, Nat.min_eq_left (Nat.le_of_lt h)]
theorem stealK_succ (f F L t : Int) {l : List Bk} {i : Nat} (h : i < l.length) {b : Bk} (hb : l.getD i .zero = b) : stealK f F L t l (i + 1) = (stealK f F L t l i).set i (stealB f F L t b) := by
  have hb' : l[i] = b := by rw [List.getD_eq_getElem?_getD, List.getElem?_eq_getElem h] at hb; exact hb
  unfold stealK
  rw [List.take_succ_eq_append_getElem h, List.map_append, List.set_append_right _ _ (by simp; omega)]
  have e : i - ((l.take i).map (stealB f F L t)).length = 0 := by simp; omega
  rw [e, List.drop_eq_getElem_cons h, List.set_cons_zero, hb']
  simp

end Go.Proofs.YtpfafhgllabhbaaDoor.Kit

/-
  OWN TEXT. What is stolen may be: plain mathematics.
-/
namespace Go.Proofs.YtpfafhgllabhbaaDoor.Kit

theorem steal_ahead (f F L t : Int) {l : List Bk} (h : l.Pairwise Ahead) : (l.map (stealB f F L t)).Pairwise Ahead := by
  refine List.pairwise_map.2 (h.imp ?_)
  intro x y hxy
  unfold Ahead besideP at *
  rw [stealB_a, stealB_o, stealB_a, stealB_o]
  exact hxy

theorem steal_in {f z F L t : Int} {l : List Bk} (ht : typeOk t) (h : AllIn f z l) : AllIn f z (l.map (stealB f F L t)) := by
  intro b hb
  obtain ⟨x, hx, rfl⟩ := List.mem_map.1 hb
  obtain ⟨h1, h2⟩ := h x hx
  rw [stealB_a, stealB_o]
  refine ⟨h1, ?_⟩
  unfold stealB
  split
  · exact ht
  · exact h2

theorem setR_ok {ty : List Int} {F : Nat} {t : Int} (ht : typeOk t) (h : ∀ i, i < ty.length → typeOk (ty.getD i 0)) (c : Nat) : ∀ i, i < (setR ty F t c).length → typeOk ((setR ty F t c).getD i 0) := by
  induction c with
  | zero => exact h
  | succ c ih =>
    intro i hi
    unfold setR at hi ⊢
    rw [List.length_set] at hi
    rw [List.getD_eq_getElem?_getD, List.getElem?_set]
    split
    · split
      · exact ht
      · exact absurd (by omega : F + c < (setR ty F t c).length) ‹_›
    · have := ih i hi
      rwa [List.getD_eq_getElem?_getD] at this

/-- A zone whose groups are stolen may be. -/
theorem steal_may {z : Zn} (h : ZMay z) (F : Nat) (L t : Int) (c : Nat) (ht : typeOk t) : ZMay ⟨z.f, z.t, z.free.map (stealB z.f F L t), setR z.types F t c⟩ := by
  obtain ⟨h1, h2⟩ := free_iff.1 h.free
  exact ⟨h.new, by rw [setR_len]; exact h.len, setR_ok ht h.ty c, free_iff.2 ⟨steal_in ht h1, steal_ahead _ _ _ _ h2⟩⟩

/-- A zone of which a block is taken may be. -/
theorem take_may {z : Zn} (h : ZMay z) (p q : List Bk) (b : Bk) (t o : Int) (ho : 0 ≤ o) (ht : typeOk t) (e : z.free = p ++ b :: q) : ZMay ⟨z.f, z.t, p ++ halvesL b.a t o (b.o - o).toNat ++ q, z.types⟩ := by
  have hf := h.free
  rw [e] at hf
  obtain ⟨h1, h2⟩ := free_iff.1 hf
  exact ⟨h.new, h.len, h.ty, free_iff.2 ⟨take_in p q b t o ho ht h.new.2.2.2.2 h1, take_ahead p q b t o ho h1 h2⟩⟩

end Go.Proofs.YtpfafhgllabhbaaDoor.Kit

/-
  OWN TEXT. What a take leaves of a zone, and that it may be: plain mathematics.
-/
namespace Go.Proofs.YtpfafhgllabhbaaDoor.Kit

/-- The groups of a block. -/
def grpF (z : Zn) (b : Bk) : Int := (b.a - z.f) / 8
def grpL (z : Zn) (b : Bk) : Int := (b.a + pw b.o - 1 - z.f) / 8

/-- Is the block stolen? -/
def steals (b : Bk) (t : Int) : Prop := b.t ≠ t ∧ 2 ≤ b.o
instance (b : Bk) (t : Int) : Decidable (steals b t) := by unfold steals; infer_instance

/-- The zone of which the block at place i has been stolen. -/
def stolenZ (z : Zn) (b : Bk) (t : Int) : Zn := ⟨z.f, z.t, z.free.map (stealB z.f (grpF z b) (grpL z b) t), setR z.types (grpF z b).toNat t ((grpL z b).toNat + 1 - (grpF z b).toNat)⟩

/-- The zone behind a take of an order, for a type, of the block at place i. -/
def takeZ (z : Zn) (o t : Int) (i : Nat) : Zn :=
  let b := z.free.getD i .zero
  if steals b t then
    let s := stolenZ z b t
    ⟨z.f, z.t, s.free.take i ++ (halvesL b.a t o (b.o - o).toNat ++ s.free.drop (i + 1)), s.types⟩
  else ⟨z.f, z.t, z.free.take i ++ (halvesL b.a b.t o (b.o - o).toNat ++ z.free.drop (i + 1)), z.types⟩

theorem fidx_in {g : Bk → Bool} {l : List Bk} (h : 0 ≤ fidx g l) : ∃ i : Nat, fidx g l = i ∧ i < l.length ∧ g (l.getD i .zero) = true := by
  induction l with
  | nil => simp [fidx] at h
  | cons b l ih =>
    by_cases hb : g b = true
    · exact ⟨0, by simp [fidx, hb], by simp, by simpa using hb⟩
    · by_cases hn : fidx g l < 0
      · simp [fidx, hb, hn] at h
      · obtain ⟨i, e, hi, hg⟩ := ih (by omega)
        refine ⟨i + 1, ?_, by simpa using hi, by simpa using hg⟩
        show (if g b = true then (0 : Int) else if fidx g l < 0 then -1 else fidx g l + 1) = _
        rw [if_neg hb, if_neg hn, e]
        rfl

theorem upI_in {l : List Bk} {t : Int} {n : Nat} {o : Int} (h : 0 ≤ upI l t n o) : ∃ i : Nat, upI l t n o = i ∧ i < l.length ∧ o ≤ (l.getD i .zero).o := by
  induction n generalizing o with
  | zero => simp [upI] at h
  | succ n ih =>
    unfold upI at h ⊢
    split at h
    · rename_i hf
      rw [if_pos hf]
      obtain ⟨i, e, hi, hg⟩ := fidx_in hf
      have := (of_decide_eq_true hg).1
      exact ⟨i, e, hi, by omega⟩
    · rename_i hf
      rw [if_neg hf]
      obtain ⟨i, e, hi, hg⟩ := ih h
      exact ⟨i, e, hi, by omega⟩

theorem dnI_in {l : List Bk} {u v o : Int} {n : Nat} (h : 0 ≤ dnI l u v o n) : ∃ i : Nat, dnI l u v o n = i ∧ i < l.length ∧ o ≤ (l.getD i .zero).o := by
  induction n with
  | zero => simp [dnI] at h
  | succ n ih =>
    unfold dnI at h ⊢
    split at h
    · rename_i hf
      rw [if_pos hf]
      obtain ⟨i, e, hi, hg⟩ := fidx_in hf
      have := (of_decide_eq_true hg).1
      exact ⟨i, e, hi, by omega⟩
    · rename_i hf
      rw [if_neg hf]
      split at h
      · rename_i hk
        rw [if_pos hk]
        obtain ⟨i, e, hi, hg⟩ := fidx_in hk
        have := (of_decide_eq_true hg).1
        exact ⟨i, e, hi, by omega⟩
      · rename_i hk
        rw [if_neg hk]
        exact ih h

theorem choose_in {l : List Bk} {o t : Int} (h : 0 ≤ chooseI l o t) : ∃ i : Nat, chooseI l o t = i ∧ i < l.length ∧ o ≤ (l.getD i .zero).o := by
  unfold chooseI at h ⊢
  split at h
  · rename_i hu
    rw [if_pos hu]
    exact upI_in hu
  · rename_i hu
    rw [if_neg hu]
    exact dnI_in h

theorem map_getD (f : Bk → Bk) {l : List Bk} {i : Nat} (h : i < l.length) : (l.map f).getD i .zero = f (l.getD i .zero) := by
  rw [List.getD_eq_getElem?_getD, List.getD_eq_getElem?_getD, List.getElem?_map, List.getElem?_eq_getElem h]
  rfl

theorem cut_at (l : List Bk) {i : Nat} (h : i < l.length) : l = l.take i ++ l.getD i .zero :: l.drop (i + 1) := by
  rw [List.getD_eq_getElem?_getD, List.getElem?_eq_getElem h]
  simp

/-- The stolen block has the type. -/
theorem stolen_self {z : Zn} {b : Bk} (t : Int) : stealB z.f (grpF z b) (grpL z b) t b = ⟨b.a, b.o, t⟩ := by
  have hp := pw_pos b.o
  unfold stealB grpF grpL
  rw [if_pos ⟨Int.le_refl _, by omega⟩]

theorem takeZ_may {z : Zn} (h : ZMay z) {o t : Int} (ho : 0 ≤ o) (ht : typeOk t) {i : Nat} (hi : i < z.free.length) (hb : typeOk (z.free.getD i .zero).t) (hf : z.f ≤ (z.free.getD i .zero).a) : ZMay (takeZ z o t i) := by
  unfold takeZ
  dsimp only
  split
  · have e : ((grpF z (z.free.getD i .zero)).toNat : Int) = grpF z (z.free.getD i .zero) := Int.toNat_of_nonneg (by unfold grpF; omega)
    have hs := steal_may h (grpF z (z.free.getD i .zero)).toNat (grpL z (z.free.getD i .zero)) t ((grpL z (z.free.getD i .zero)).toNat + 1 - (grpF z (z.free.getD i .zero)).toNat) ht
    rw [e] at hs
    have hc := cut_at (z.free.map (stealB z.f (grpF z (z.free.getD i .zero)) (grpL z (z.free.getD i .zero)) t)) (i := i) (by simpa using hi)
    rw [map_getD _ hi, stolen_self] at hc
    have := take_may hs _ _ _ t o ho ht hc
    simpa [stolenZ] using this
  · have := take_may h _ _ _ (z.free.getD i .zero).t o ho hb (cut_at z.free hi)
    simpa using this

end Go.Proofs.YtpfafhgllabhbaaDoor.Kit

/-
  OWN TEXT. Contracts of the code: buddy.Take, what it refuses.
-/
namespace Go.Proofs.YtpfafhgllabhbaaDoor
open Go Go.RowKit Go.Proofs.YtpfafhgllabhbaaDoor.Kit

/-- No zone is returned, no place, and a code. -/
def RetNone3 (c : Int) (e : Ending) : Prop := e = .returned (.tuple #[.agg #[.int .i64 0, .int .i64 0, .slice none 0 0, .slice none 0 0], .int .i64 0, .int .i64 c])
/-- A zone in new memory is returned, a place, and a code. -/
def RetZone3 (B : Nat) (w' : World) (z : Zn) (a : Int) (e : Ending) : Prop :=
  ∃ fo fn fc to_ tn tc, e = .returned (.tuple #[.agg #[.int .i64 z.f, .int .i64 z.t, .slice fo fn fc, .slice to_ tn tc], .int .i64 a, .int .i64 0]) ∧ ZnAt w' fo fn to_ tn z ∧ Fresh B fo ∧ Fresh B to_

set_option maxHeartbeats 1000000 in
theorem zTake_no (w : World) (fo : Option Addr) (fn fc : Nat) (to_ : Option Addr) (tn tc : Nat) (z : Zn) (o t : Int) (h : ZnAt w fo fn to_ tn z) (hf : ZFits z) (hM : ¬ ZMay z) :
    Calls Tryd.prog 6 #[.agg #[.int .i64 z.f, .int .i64 z.t, .slice fo fn fc, .slice to_ tn tc], .int .i64 o, .int .i64 t] w fun e w' => RetNone3 8 e ∧ Below w.heap.size w w' := by
  have I0 := cbI_first w fo fn fc to_ tn tc z h
  have c0 := I0.box.c0
  have c1 := I0.box.c1
  have c2 := I0.box.c2
  have c3 := I0.box.c3
  clear h
  go_enter Tryd.func6, Tryd.ntmps6
  go_wp2_with fail
  go_at_call 10
  refine (zCheck_no _ fo fn fc to_ tn tc z I0.zn hf hM).mono ?_
  rintro e w1 ⟨rfl, hb⟩
  have I1 := I0.step hb
  clear I0 hb hM hf c0 c1 c2 c3
  have c0 := I1.box.c0
  have c1 := I1.box.c1
  have c2 := I1.box.c2
  have c3 := I1.box.c3
  have R1 := I1.res
  obtain ⟨⟨x0, d0⟩, ⟨x1, d1⟩, ⟨x2, d2⟩, ⟨x3, d3⟩, z0, z1, z2, z3⟩ := id R1
  have hB := I1.b
  have hs := I1.size
  clear I1 c0 c1 c2 c3
  go_wp2
  obtain ⟨k0, k1, k2, k3⟩ := res4 R1 (.int .i64 0) (.int .i64 0) (.slice none 0 0) (.slice none 0 0)
  have hbt := but4 w1 (w.heap.size + 1) (.int .i64 0) (.int .i64 0) (.slice none 0 0) (.slice none 0 0)
  exact bodyPost_ret (v := .tuple #[.agg #[.int .i64 0, .int .i64 0, .slice none 0 0, .slice none 0 0], .int .i64 0, .int .i64 8]) (by simp [results, Tryd.results6, go_sem, k0, k1, k2, k3]) rfl ⟨rfl, hB.trans (hbt.below (by omega) (by omega))⟩

set_option maxHeartbeats 1000000 in
theorem zTake_range (w : World) (fo : Option Addr) (fn fc : Nat) (to_ : Option Addr) (tn tc : Nat) (z : Zn) (o t : Int) (h : ZnAt w fo fn to_ tn z) (hM : ZMay z) (ho : ¬ ordOk o) :
    Calls Tryd.prog 6 #[.agg #[.int .i64 z.f, .int .i64 z.t, .slice fo fn fc, .slice to_ tn tc], .int .i64 o, .int .i64 t] w fun e w' => RetNone3 1 e ∧ Below w.heap.size w w' := by
  have I0 := cbI_first w fo fn fc to_ tn tc z h
  have c0 := I0.box.c0
  have c1 := I0.box.c1
  have c2 := I0.box.c2
  have c3 := I0.box.c3
  clear h
  go_enter Tryd.func6, Tryd.ntmps6
  have HO : Hid (inB o 0 4 = false) := inB_f (fun g => ho g)
  go_wp2_with fail
  go_at_call 10
  refine (zCheck_ok _ fo fn fc to_ tn tc z I0.zn hM).mono ?_
  rintro e w1 ⟨rfl, hb⟩
  have I1 := I0.step hb
  clear I0 hb hM c0 c1 c2 c3
  have c0 := I1.box.c0
  have c1 := I1.box.c1
  have c2 := I1.box.c2
  have c3 := I1.box.c3
  go_wp2_with fail
  go_at_call 14
  refine (isOrder_any _ o).mono ?_
  rintro e wq ⟨rfl, rfl⟩
  rw [HO.out]
  have R1 := I1.res
  obtain ⟨⟨x0, d0⟩, ⟨x1, d1⟩, ⟨x2, d2⟩, ⟨x3, d3⟩, z0, z1, z2, z3⟩ := id R1
  have hB := I1.b
  have hs := I1.size
  clear I1 c0 c1 c2 c3
  go_wp2
  obtain ⟨k0, k1, k2, k3⟩ := res4 R1 (.int .i64 0) (.int .i64 0) (.slice none 0 0) (.slice none 0 0)
  have hbt := but4 w1 (w.heap.size + 1) (.int .i64 0) (.int .i64 0) (.slice none 0 0) (.slice none 0 0)
  exact bodyPost_ret (v := .tuple #[.agg #[.int .i64 0, .int .i64 0, .slice none 0 0, .slice none 0 0], .int .i64 0, .int .i64 1]) (by simp [results, Tryd.results6, go_sem, k0, k1, k2, k3]) rfl ⟨rfl, hB.trans (hbt.below (by omega) (by omega))⟩

set_option maxHeartbeats 1000000 in
theorem zTake_kind (w : World) (fo : Option Addr) (fn fc : Nat) (to_ : Option Addr) (tn tc : Nat) (z : Zn) (o t : Int) (h : ZnAt w fo fn to_ tn z) (hM : ZMay z) (ho : ordOk o) (ht : ¬ typeOk t) :
    Calls Tryd.prog 6 #[.agg #[.int .i64 z.f, .int .i64 z.t, .slice fo fn fc, .slice to_ tn tc], .int .i64 o, .int .i64 t] w fun e w' => RetNone3 2 e ∧ Below w.heap.size w w' := by
  have I0 := cbI_first w fo fn fc to_ tn tc z h
  have c0 := I0.box.c0
  have c1 := I0.box.c1
  have c2 := I0.box.c2
  have c3 := I0.box.c3
  clear h
  go_enter Tryd.func6, Tryd.ntmps6
  have HO : Hid (inB o 0 4 = true) := inB_t ho
  have HT : Hid (inB t 0 2 = false) := inB_f (fun g => ht g)
  go_wp2_with fail
  go_at_call 10
  refine (zCheck_ok _ fo fn fc to_ tn tc z I0.zn hM).mono ?_
  rintro e w1 ⟨rfl, hb⟩
  have I1 := I0.step hb
  clear I0 hb hM c0 c1 c2 c3
  have c0 := I1.box.c0
  have c1 := I1.box.c1
  have c2 := I1.box.c2
  have c3 := I1.box.c3
  go_wp2_with fail
  go_at_call 14
  refine (isOrder_any _ o).mono ?_
  rintro e wq ⟨rfl, rfl⟩
  rw [HO.out]
  go_wp2_with fail
  go_at_call 15
  refine (isType_any _ t).mono ?_
  rintro e wq ⟨rfl, rfl⟩
  rw [HT.out]
  have R1 := I1.res
  obtain ⟨⟨x0, d0⟩, ⟨x1, d1⟩, ⟨x2, d2⟩, ⟨x3, d3⟩, z0, z1, z2, z3⟩ := id R1
  have hB := I1.b
  have hs := I1.size
  clear I1 c0 c1 c2 c3
  go_wp2
  obtain ⟨k0, k1, k2, k3⟩ := res4 R1 (.int .i64 0) (.int .i64 0) (.slice none 0 0) (.slice none 0 0)
  have hbt := but4 w1 (w.heap.size + 1) (.int .i64 0) (.int .i64 0) (.slice none 0 0) (.slice none 0 0)
  exact bodyPost_ret (v := .tuple #[.agg #[.int .i64 0, .int .i64 0, .slice none 0 0, .slice none 0 0], .int .i64 0, .int .i64 2]) (by simp [results, Tryd.results6, go_sem, k0, k1, k2, k3]) rfl ⟨rfl, hB.trans (hbt.below (by omega) (by omega))⟩

set_option maxHeartbeats 1000000 in
theorem zTake_room (w : World) (fo : Option Addr) (fn fc : Nat) (to_ : Option Addr) (tn tc : Nat) (z : Zn) (o t : Int) (h : ZnAt w fo fn to_ tn z) (hM : ZMay z) (hT : TabAt w) (ho : ordOk o) (ht : typeOk t) (hN : chooseI z.free o t < 0) :
    Calls Tryd.prog 6 #[.agg #[.int .i64 z.f, .int .i64 z.t, .slice fo fn fc, .slice to_ tn tc], .int .i64 o, .int .i64 t] w fun e w' => RetNone3 6 e ∧ Below w.heap.size w w' := by
  have I0 := cbI_first w fo fn fc to_ tn tc z h
  have c0 := I0.box.c0
  have c1 := I0.box.c1
  have c2 := I0.box.c2
  have c3 := I0.box.c3
  clear h
  go_enter Tryd.func6, Tryd.ntmps6
  have HO : Hid (inB o 0 4 = true) := inB_t ho
  have HT : Hid (inB t 0 2 = true) := inB_t ht
  go_wp2_with fail
  go_at_call 10
  refine (zCheck_ok _ fo fn fc to_ tn tc z I0.zn hM).mono ?_
  rintro e w1 ⟨rfl, hb⟩
  have I1 := I0.step hb
  clear I0 hb hM c0 c1 c2 c3
  have c0 := I1.box.c0
  have c1 := I1.box.c1
  have c2 := I1.box.c2
  have c3 := I1.box.c3
  go_wp2_with fail
  go_at_call 14
  refine (isOrder_any _ o).mono ?_
  rintro e wq ⟨rfl, rfl⟩
  rw [HO.out]
  go_wp2_with fail
  go_at_call 15
  refine (isType_any _ t).mono ?_
  rintro e wq ⟨rfl, rfl⟩
  rw [HT.out]
  go_wp2_with fail
  go_at_call 16
  refine (choose_any _ fo fn fc z.free o t I1.zn.free (hT.below I1.b) ho ht).mono ?_
  rintro e w2 ⟨rfl, hb2⟩
  have I2 := I1.step hb2
  clear I1 hb2 c0 c1 c2 c3
  have c0 := I2.box.c0
  have c1 := I2.box.c1
  have c2 := I2.box.c2
  have c3 := I2.box.c3
  obtain ⟨C, hC⟩ : ∃ C, chooseI z.free o t = C := ⟨_, rfl⟩
  rw [hC] at hN ⊢
  clear hC
  have R1 := I2.res
  obtain ⟨⟨x0, d0⟩, ⟨x1, d1⟩, ⟨x2, d2⟩, ⟨x3, d3⟩, z0, z1, z2, z3⟩ := id R1
  have hB := I2.b
  have hs := I2.size
  clear I2 c0 c1 c2 c3
  go_wp2
  obtain ⟨k0, k1, k2, k3⟩ := res4 R1 (.int .i64 0) (.int .i64 0) (.slice none 0 0) (.slice none 0 0)
  have hbt := but4 w2 (w.heap.size + 1) (.int .i64 0) (.int .i64 0) (.slice none 0 0) (.slice none 0 0)
  exact bodyPost_ret (v := .tuple #[.agg #[.int .i64 0, .int .i64 0, .slice none 0 0, .slice none 0 0], .int .i64 0, .int .i64 6]) (by simp [results, Tryd.results6, go_sem, k0, k1, k2, k3]) rfl ⟨rfl, hB.trans (hbt.below (by omega) (by omega))⟩

end Go.Proofs.YtpfafhgllabhbaaDoor

/-
  OWN TEXT. Contract of the code: buddy.group.
-/
namespace Go.Proofs.YtpfafhgllabhbaaDoor
open Go Go.RowKit Go.Proofs.YtpfafhgllabhbaaDoor.Kit

set_option maxHeartbeats 1000000 in
theorem group_any (w : World) (f t : Int) (fo to_ : Option Addr) (fn fc tn tc : Nat) (a : Int) (h0 : 0 ≤ f) (h1 : f ≤ a) (h2 : a ≤ 256) :
    Calls Tryd.prog 40 #[.agg #[.int .i64 f, .int .i64 t, .slice fo fn fc, .slice to_ tn tc], .int .i64 a] w fun e w' => e = .returned (.int .i64 ((a - f) / 8)) ∧ Below w.heap.size w w' := by
  have hb1 := below_box w (.cells #[.int .i64 f, .int .i64 t, .slice fo fn fc, .slice to_ tn tc] 25)
  obtain ⟨D, hD⟩ : ∃ D : Nat, a - f = (D : Int) := ⟨(a - f).toNat, by omega⟩
  obtain ⟨N, hq⟩ : ∃ N : Nat, (D : Int) / 8 = (N : Int) := ⟨D / 8, by omega⟩
  rw [hD, hq]
  go_enter Tryd.func40, Tryd.ntmps40
  go_wp2
  go_ret
  exact ⟨rfl, hb1⟩

end Go.Proofs.YtpfafhgllabhbaaDoor

/-
  OWN TEXT. Contract of the code: buddy.steal.
-/
namespace Go.Proofs.YtpfafhgllabhbaaDoor
open Go Go.RowKit Go.Proofs.YtpfafhgllabhbaaDoor.Kit

/-- A store into a block of an owned row: its type. -/
theorem own_type {w : World} {base g n cap : Nat} {l : List Bk} (h : w.ownsRow base 42 3 (.slice (some ⟨g, 0, none⟩) n cap) n (bvals l)) {i : Nat} (hi : i < n) (x : Int) :
    w.cell? ⟨g, i * 3 + 2, none⟩ = some (.int .i64 (l.getD i .zero).t) ∧ w.frozen? ⟨g, i * 3 + 2, none⟩ = false ∧
    (w.setCell ⟨g, i * 3 + 2, none⟩ (.int .i64 x)).ownsRow base 42 3 (.slice (some ⟨g, 0, none⟩) n cap) n (bvals (l.set i ⟨(l.getD i .zero).a, (l.getD i .zero).o, x⟩)) := by
  have hl := bowns_len h
  refine ⟨by rw [h.cellAt _ (by omega), bvals_2 l i (by omega)], h.frozenAt _, ?_⟩
  have := (h.stored (i * 3 + 2) (.int .i64 x)).1
  rwa [bvals_set2 l i x (by omega)] at this

theorem at_world {Q : Exit → Act → World → Prop} {a : Act} {V : World} (S : World → Prop) (hS : S V) (h : ∀ V', S V' → Q .normal a V') : Q .normal a V := h V hS

/-- The types are others. -/
theorem Zo.types {w : World} {base zb g n cap k tn tk : Nat} {z : Zn} (h : Zo w base zb g n cap k tn tk z) {i : Nat} (hi : i < tn) (t : Int) :
    w.cell? ⟨k, i, none⟩ = some (.int .i64 (z.types.getD i 0)) ∧ w.frozen? ⟨k, i, none⟩ = false ∧ Zo (w.setCell ⟨k, i, none⟩ (.int .i64 t)) base zb g n cap k tn tk ⟨z.f, z.t, z.free, z.types.set i t⟩ ∧ But k w (w.setCell ⟨k, i, none⟩ (.int .i64 t)) := by
  obtain ⟨c1, c2, o⟩ := owns_store h.typ i hi t
  have hbt : But k w (w.setCell ⟨k, i, none⟩ (.int .i64 t)) := (But.refl _ _).setCell _
  exact ⟨c1, c2, ⟨h.box.but hbt (Ne.symm h.kz), own_but h.own hbt h.gk, o, h.gz, h.kz, h.gk⟩, hbt⟩
theorem Zo.btype {w : World} {base zb g n cap k tn tk : Nat} {z : Zn} (h : Zo w base zb g n cap k tn tk z) {i : Nat} (hi : i < n) (t : Int) :
    w.cell? ⟨g, i * 3 + 2, none⟩ = some (.int .i64 (z.free.getD i .zero).t) ∧ w.frozen? ⟨g, i * 3 + 2, none⟩ = false ∧ Zo (w.setCell ⟨g, i * 3 + 2, none⟩ (.int .i64 t)) base zb g n cap k tn tk ⟨z.f, z.t, z.free.set i ⟨(z.free.getD i .zero).a, (z.free.getD i .zero).o, t⟩, z.types⟩ ∧ But g w (w.setCell ⟨g, i * 3 + 2, none⟩ (.int .i64 t)) := by
  obtain ⟨c1, c2, o⟩ := own_type h.own hi t
  have hbt : But g w (w.setCell ⟨g, i * 3 + 2, none⟩ (.int .i64 t)) := (But.refl _ _).setCell _
  exact ⟨c1, c2, ⟨h.box.but hbt (Ne.symm h.gz), o, own_but h.typ hbt (Ne.symm h.gk), h.gz, h.kz, h.gk⟩, hbt⟩

set_option maxHeartbeats 8000000 in
theorem steal_any (w : World) (base zb g n cap k tn tk : Nat) (z : Zn) (ba bo bt t : Int) (F L : Nat) (Z : Zo w base zb g n cap k tn tk z) (hn : n ≤ 300) (h0 : 0 ≤ z.f) (hb : ordOk bo) (h1 : z.f ≤ ba) (h2 : ba + pw bo ≤ 256)
    (hF : (ba - z.f) / 8 = (F : Int)) (hL : (ba + pw bo - 1 - z.f) / 8 = (L : Int)) (hLn : L < tn) (hall : ∀ b ∈ z.free, z.f ≤ b.a ∧ b.a ≤ 256) (htn : tn ≤ 300) :
    Calls Tryd.prog 17 #[.pointer (some ⟨zb, 0, none⟩), .agg #[.int .i64 ba, .int .i64 bo, .int .i64 bt], .int .i64 t] w fun e w' => e = .returned (.tuple #[]) ∧
      Zo w' base zb g n cap k tn tk ⟨z.f, z.t, z.free.map (stealB z.f F L t), setR z.types F t (L + 1 - F)⟩ ∧ Bu2 g k w w' := by
  have hp := pw_pos bo
  have hb0 := below_box w (.cells #[.int .i64 ba, .int .i64 bo, .int .i64 bt] 42)
  have l0 : (w.alloc (.cells #[.int .i64 ba, .int .i64 bo, .int .i64 bt] 42)).cell? ⟨w.heap.size, 0, none⟩ = some (.int .i64 ba) := by go_simp
  have l1 : (w.alloc (.cells #[.int .i64 ba, .int .i64 bo, .int .i64 bt] 42)).cell? ⟨w.heap.size, 1, none⟩ = some (.int .i64 bo) := by go_simp
  have l2 : (w.alloc (.cells #[.int .i64 ba, .int .i64 bo, .int .i64 bt] 42)).cell? ⟨w.heap.size, 2, none⟩ = some (.int .i64 bt) := by go_simp
  obtain ⟨W0, hW0⟩ : ∃ W0, w.alloc (.cells #[.int .i64 ba, .int .i64 bo, .int .i64 bt] 42) = W0 := ⟨_, rfl⟩
  rw [hW0] at hb0 l0 l1 l2
  have HW0 : Hid _ := hW0
  have Z0 := Z.below hb0
  have hgl := Z.glt
  have hkl := Z.klt
  have hzl := Z.box.lt
  obtain ⟨E, hE⟩ : ∃ E, ba + pw bo = E := ⟨_, rfl⟩
  rw [hE] at h2 hL
  have hE1 : z.f ≤ E - 1 := by omega
  have hwE : IntKind.i64.wrap (E - 1) = E - 1 := IntWalk.i64_in _ (by omega)
  have m0 : ∀ wx, Below W0.heap.size W0 wx → wx.cell? ⟨w.heap.size, 0, none⟩ = some (.int .i64 ba) := fun wx h => keep l0 h
  have m1 : ∀ wx, Below W0.heap.size W0 wx → wx.cell? ⟨w.heap.size, 1, none⟩ = some (.int .i64 bo) := fun wx h => keep l1 h
  have m2 : ∀ wx, Below W0.heap.size W0 wx → wx.cell? ⟨w.heap.size, 2, none⟩ = some (.int .i64 bt) := fun wx h => keep l2 h
  have r0 : ∀ wx, Below W0.heap.size W0 wx → wx.cell? ⟨zb, 0, none⟩ = some (.int .i64 z.f) := fun wx h => keep Z0.box.c0 h
  have r1 : ∀ wx, Below W0.heap.size W0 wx → wx.cell? ⟨zb, 1, none⟩ = some (.int .i64 z.t) := fun wx h => keep Z0.box.c1 h
  have r2 : ∀ wx, Below W0.heap.size W0 wx → wx.cell? ⟨zb, 2, none⟩ = some (.slice (some ⟨g, 0, none⟩) n cap) := fun wx h => keep Z0.box.c2 h
  have r3 : ∀ wx, Below W0.heap.size W0 wx → wx.cell? ⟨zb, 3, none⟩ = some (.slice (some ⟨k, 0, none⟩) tn tk) := fun wx h => keep Z0.box.c3 h
  have HG1 : Hid (∀ V, Below W0.heap.size W0 V → Calls Tryd.prog 40 #[.agg #[.int .i64 z.f, .int .i64 z.t, .slice (some ⟨g, 0, none⟩) n cap, .slice (some ⟨k, 0, none⟩) tn tk], .int .i64 ba] V fun e w' => e = .returned (.int .i64 F) ∧ Below W0.heap.size W0 w') := fun V hV => by
    rw [← hF]
    refine (group_any V z.f z.t _ _ n cap tn tk ba h0 h1 (by omega)).mono ?_
    rintro e w' ⟨rfl, hb⟩
    exact ⟨rfl, hV.trans (hb.mono hV.size)⟩
  have HG2 : Hid (∀ V, Below W0.heap.size W0 V → Calls Tryd.prog 40 #[.agg #[.int .i64 z.f, .int .i64 z.t, .slice (some ⟨g, 0, none⟩) n cap, .slice (some ⟨k, 0, none⟩) tn tk], .int .i64 (E - 1)] V fun e w' => e = .returned (.int .i64 L) ∧ Below W0.heap.size W0 w') := fun V hV => by
    rw [← hL]
    refine (group_any V z.f z.t _ _ n cap tn tk (E - 1) h0 hE1 (by omega)).mono ?_
    rintro e w' ⟨rfl, hb⟩
    exact ⟨rfl, hV.trans (hb.mono hV.size)⟩
  have HBe : Hid (∀ V, Below W0.heap.size W0 V → Calls Tryd.prog 41 #[.agg #[.int .i64 ba, .int .i64 bo, .int .i64 bt]] V fun e w' => e = .returned (.int .i64 E) ∧ Below W0.heap.size W0 w') := fun V hV => by
    rw [← hE]
    refine (behind_any V ba bo bt hb (by omega) (by omega)).mono ?_
    rintro e w' ⟨rfl, hb⟩
    exact ⟨rfl, hV.trans (hb.mono hV.size)⟩
  have S0 : Below W0.heap.size W0 W0 := Below.refl _ _
  have hFL' : F ≤ L + 1 := by omega
  clear hW0 hF hL hE Z
  go_enter Tryd.func17, Tryd.ntmps17
  go_wp2_with (rw [HW0.out])
  clear HW0
  go_region_held3 (fun wx => Below W0.heap.size W0 wx) (first | assumption | exact Below.drew (by assumption))
    (first
      | (go_at_call_of 40 ba; refine (HG1.out _ ?_).mono ?_; assumption; rintro e w6 ⟨rfl, hS6⟩)
      | (go_at_call 40; refine (HG2.out _ ?_).mono ?_; assumption; rintro e w7 ⟨rfl, hS7⟩)
      | (go_at_call 41; refine (HBe.out _ ?_).mono ?_; assumption; rintro e w8 ⟨rfl, hS8⟩))
  all_goals
    refine at_world (fun wx => Below W0.heap.size W0 wx) (by assumption) ?_
    intro V hV
    have Z1 := Z0.below hV
    have hU1 : Bu2 g k w V := (Bu2.of_below hb0).trans (.of_below hV)
    clear HG1 HG2 HBe m0 m1 m2 r0 r1 r2 r3 S0 l0 l1 l2 hwE
    go_wp2
    go_loopw [8] (fun ov wr => ∃ c : Nat, F + c ≤ L + 1 ∧ ov = .int .i64 ((F + c : Nat) : Int) ∧ Zo wr base zb g n cap k tn tk ⟨z.f, z.t, z.free, setR z.types F t c⟩ ∧ Bu2 g k w wr) (fun ov _ => L + 1 - (intOf ov).toNat)
    case atStart => exact ⟨0, by omega, rfl, Z1, hU1⟩
    case round =>
      obtain ⟨c, hc, rfl, Zr, hU⟩ := hrel
      clear Z1 hU1
      have y3 := Zr.box.c3
      by_cases hlt : F + c ≤ L
      · obtain ⟨q1, q2, Z5, hb5⟩ := Zr.types (i := F + c) (by omega) t
        have hU5 := hU.trans (.of_but_z hb5)
        have e1 : (((F + c : Nat) : Int) ≤ (L : Int)) := by omega
        obtain ⟨J, hJ⟩ : ∃ J, F + c = J := ⟨_, rfl⟩
        rw [hJ] at q1 q2 Z5 hU5 e1
        have hJn : J < tn := by omega
        have Z6 : Zo (wr.setCell ⟨k, J, none⟩ (.int .i64 t)) base zb g n cap k tn tk ⟨z.f, z.t, z.free, setR z.types F t (c + 1)⟩ := by
          have : setR z.types F t (c + 1) = (setR z.types F t c).set J t := by rw [← hJ]; rfl
          rw [this]; exact Z5
        have HJ : Hid (F + c = J) := hJ
        rw [hJ]
        clear hJ Zr hU Z5 hb5
        go_wp2
        go_roundw
        case rel => exact ⟨c + 1, by have := HJ.out; omega, by have := HJ.out; rw [show F + (c + 1) = J + 1 by omega]; go_num, Z6, hU5⟩
        case measure => simp [intOf]; omega
      · have hcL : c = L + 1 - F := by omega
        have e1 : ¬ (((F + c : Nat) : Int) ≤ (L : Int)) := by omega
        rw [hcL] at Zr
        obtain ⟨T, hT⟩ : ∃ T, setR z.types F t (L + 1 - F) = T := ⟨_, rfl⟩
        rw [hT] at Zr
        obtain ⟨J, hJ⟩ : ∃ J, F + c = J := ⟨_, rfl⟩
        rw [hJ] at e1 ⊢
        have HT : Hid (setR z.types F t (L + 1 - F) = T) := hT
        have y2 := Zr.box.c2
        clear hT hcL hJ y3
        go_wp2
        clear y2
        go_loopw [42] (fun iv wq => ∃ i : Nat, i ≤ n ∧ iv = .int .i64 i ∧ Zo wq base zb g n cap k tn tk ⟨z.f, z.t, stealK z.f F L t z.free i, T⟩ ∧ Bu2 g k w wq) (fun iv _ => n - (intOf iv).toNat)
        case atStart => exact ⟨0, Nat.zero_le _, rfl, by rw [stealK_0]; exact Zr, hU⟩
        case round =>
          obtain ⟨i, hi, rfl, Zq, hUq⟩ := hrel
          clear Zr hU
          have hll : z.free.length = n := by have := bowns_len Zq.own; rw [stealK_len] at this; exact this
          by_cases hin : i < n
          · obtain ⟨⟨x, y, u⟩, hX⟩ : ∃ b, z.free.getD i .zero = b := ⟨_, rfl⟩
            have hXq : (stealK z.f F L t z.free i).getD i .zero = ⟨x, y, u⟩ := by rw [stealK_at _ _ _ _ (by omega)]; exact hX
            have hsucc := stealK_succ z.f F L t (l := z.free) (by omega) hX
            have hmem : (⟨x, y, u⟩ : Bk) ∈ z.free := by rw [← hX, List.getD_eq_getElem?_getD, List.getElem?_eq_getElem (by omega)]; exact List.getElem_mem _
            obtain ⟨x1, x2⟩ := hall _ hmem
            dsimp only at x1 x2
            obtain ⟨q1, q2, Z5, hb5⟩ := Zq.btype (i := i) hin t
            rw [hXq] at q1 Z5
            dsimp only at q1 Z5
            have qa : wr.cell? ⟨g, i * 3, none⟩ = some (.int .i64 x) := by
              have := Zq.own.cellAt (i * 3) (by omega)
              rw [this]
              have h2 := bvals_0 (stealK z.f F L t z.free i) i (by rw [stealK_len]; omega)
              rw [hXq] at h2
              exact h2
            obtain ⟨G, hG⟩ : ∃ G : Nat, (x - z.f) / 8 = (G : Int) := ⟨((x - z.f) / 8).toNat, by omega⟩
            have HG : Hid (∀ V', Below wr.heap.size wr V' → Calls Tryd.prog 40 #[.agg #[.int .i64 z.f, .int .i64 z.t, .slice (some ⟨g, 0, none⟩) n cap, .slice (some ⟨k, 0, none⟩) tn tk], .int .i64 x] V' fun e w' => e = .returned (.int .i64 G) ∧ Below wr.heap.size wr w') := fun V' hV' => by
              rw [← hG]
              refine (group_any V' z.f z.t _ _ n cap tn tk x h0 x1 x2).mono ?_
              rintro e w' ⟨rfl, hb⟩
              exact ⟨rfl, hV'.trans (hb.mono hV'.size)⟩
            have HSt : Hid (stealB z.f F L t ⟨x, y, u⟩ = if (F : Int) ≤ G ∧ (G : Int) ≤ L then ⟨x, y, t⟩ else ⟨x, y, u⟩) := by
              show _ = _
              unfold stealB
              dsimp only
              rw [hG]
            have s1 : ∀ wx, Below wr.heap.size wr wx → wx.cell? ⟨zb, 0, none⟩ = some (.int .i64 z.f) := fun wx h => keep Zq.box.c0 h
            have s2 : ∀ wx, Below wr.heap.size wr wx → wx.cell? ⟨zb, 1, none⟩ = some (.int .i64 z.t) := fun wx h => keep Zq.box.c1 h
            have s3 : ∀ wx, Below wr.heap.size wr wx → wx.cell? ⟨zb, 2, none⟩ = some (.slice (some ⟨g, 0, none⟩) n cap) := fun wx h => keep Zq.box.c2 h
            have s4 : ∀ wx, Below wr.heap.size wr wx → wx.cell? ⟨zb, 3, none⟩ = some (.slice (some ⟨k, 0, none⟩) tn tk) := fun wx h => keep Zq.box.c3 h
            have s5 : ∀ wx, Below wr.heap.size wr wx → wx.cell? ⟨g, i * 3, none⟩ = some (.int .i64 x) := fun wx h => keep qa h
            have S0 : Below wr.heap.size wr wr := Below.refl _ _
            have hii : (i : Int) < n := by omega
            have HXq : Hid ((stealK z.f F L t z.free i).getD i .zero = ⟨x, y, u⟩) := hXq
            have HSu : Hid (stealK z.f F L t z.free (i + 1) = (stealK z.f F L t z.free i).set i (stealB z.f F L t ⟨x, y, u⟩)) := hsucc
            clear hX hmem hG q1 q2 Z5 hb5 hXq qa hsucc
            go_wp2_with fail
            go_region_held3 (fun wx => Below wr.heap.size wr wx) (first | assumption | exact Below.drew (by assumption))
              (first | (go_at_call 40; refine (HG.out _ ?_).mono ?_; assumption; rintro e w6 ⟨rfl, hS6⟩))
            clear HG s1 s2 s3 s4 s5 S0
            have Z6 := Zq.below hS6
            have hU6 := hUq.trans (.of_below hS6)
            have y2 := Z6.box.c2
            by_cases hst : (F : Int) ≤ G ∧ (G : Int) ≤ L
            · obtain ⟨q1, q2, Z7, hb7⟩ := Z6.btype (i := i) hin t
              dsimp only at q1 Z7
              rw [HXq.out] at q1 Z7
              dsimp only at q1 Z7
              have hU7 := hU6.trans (.of_but_g hb7)
              have Z8 : Zo (w6.setCell ⟨g, i * 3 + 2, none⟩ (.int .i64 t)) base zb g n cap k tn tk ⟨z.f, z.t, stealK z.f F L t z.free (i + 1), T⟩ := by
                rw [HSu.out, HSt.out, if_pos hst]; exact Z7
              obtain ⟨st1, st2⟩ := hst
              clear Zq Z6 Z7 hb7 hU6 hUq
              go_wp2
              go_roundw
              case rel => exact ⟨i + 1, by omega, by go_num, Z8, hU7⟩
              case measure => simp [intOf]; omega
            · have hset : (stealK z.f F L t z.free i).set i ⟨x, y, u⟩ = stealK z.f F L t z.free i := by
                have h3 := HXq.out
                rw [List.getD_eq_getElem?_getD, List.getElem?_eq_getElem (by rw [stealK_len]; omega)] at h3
                simp only [Option.getD_some] at h3
                rw [← h3]
                exact List.set_getElem_self _
              have Z8 : Zo w6 base zb g n cap k tn tk ⟨z.f, z.t, stealK z.f F L t z.free (i + 1), T⟩ := by
                rw [HSu.out, HSt.out, if_neg hst, hset]; exact Z6
              clear Zq hUq hset
              by_cases st1 : (F : Int) ≤ G
              · have st2 : ¬ (G : Int) ≤ L := fun g => hst ⟨st1, g⟩
                clear Z6 hst
                go_wp2
                go_roundw
                case rel => exact ⟨i + 1, by omega, by go_num, Z8, hU6⟩
                case measure => simp [intOf]; omega
              · clear Z6 hst
                go_wp2
                go_roundw
                case rel => exact ⟨i + 1, by omega, by go_num, Z8, hU6⟩
                case measure => simp [intOf]; omega
          · have hin' : i = n := by omega
            have ZF := Zq
            rw [hin', ← hll, stealK_all] at ZF
            rw [hll] at ZF
            clear Zq
            go_wp2
            go_end0
            exact ⟨rfl, by rw [HT.out]; exact ZF, hUq⟩

end Go.Proofs.YtpfafhgllabhbaaDoor

/-
  OWN TEXT. Contract of slices.Delete at one block.
-/
namespace Go.Proofs.YtpfafhgllabhbaaDoor
open Go Go.RowKit Go.Proofs.YtpfafhgllabhbaaDoor.Kit

theorem zero_block : ∀ w, (zeroValue 42).run Tryd.prog w = .ok (.agg #[.int .i64 0, .int .i64 0, .int .i64 0]) w := fun w => by
  have h := info_block
  cases hq : Tryd.prog.info? 42 with
  | none => simp [hq] at h
  | some i =>
    simp [hq] at h
    simp [zeroValue, typeInfo, hq, h.1]

theorem zero_one : ∀ v ∈ (Value.agg #[.int .i64 0, .int .i64 0, .int .i64 0]).cells, v.oneCell' = true := by
  intro v hv
  have h : v ∈ (#[.int .i64 0, .int .i64 0, .int .i64 0] : Array Value) := hv
  simp at h
  subst h
  rfl

theorem bvals_take (l : List Bk) (i : Nat) : (bvals l).take (i * 3) = bvals (l.take i) := by
  induction l generalizing i with
  | nil => simp [bvals]
  | cons b l ih =>
    cases i with
    | zero => simp [bvals]
    | succ i => rw [Nat.succ_mul]; simp only [bvals, List.take_succ_cons, ih]
theorem bvals_drop (l : List Bk) (i : Nat) : (bvals l).drop (i * 3) = bvals (l.drop i) := by
  induction l generalizing i with
  | nil => simp [bvals]
  | cons b l ih =>
    cases i with
    | zero => simp [bvals]
    | succ i => rw [Nat.succ_mul]; simp only [bvals, List.drop_succ_cons, ih]
theorem take_cut {L X : List Value} {n m : Nat} (h : L.take n = X) (hm : m ≤ n) : L.take m = X.take m := by rw [← h, List.take_take, Nat.min_eq_left hm]

set_option maxHeartbeats 2000000 in
theorem bDel_any (w : World) (base g N cap i : Nat) (l : List Bk) (hi : i ≤ N) (hn : N ≤ 300) (own : w.ownsRow base 42 3 (.slice (some ⟨g, 0, none⟩) (N + 1) cap) (N + 1) (bvals l)) :
    Calls Tryd.prog 33 #[.slice (some ⟨g, 0, none⟩) (N + 1) cap, .int .i64 i, .int .i64 ((i : Int) + 1)] w fun e w' => e = .returned (.slice (some ⟨g, 0, none⟩) N cap) ∧
      w'.ownsRow base 42 3 (.slice (some ⟨g, 0, none⟩) N cap) N (bvals (l.eraseIdx i)) ∧ But g w w' := by
  obtain ⟨i1, hj, hy0, hy1, hy2⟩ := info_parts info_block
  have hll := bowns_len own
  obtain ⟨hbg, hnc, cur, R, hcur⟩ := Row.of own
  have hm := R.m
  unfold maxLen at hm
  have own1 : w.drew.ownsRow base 42 3 (.slice (some ⟨g, 0, none⟩) i cap) i (bvals (l.take i)) :=
    (R.below (Below.refl _ _).drew).owns hbg (by omega) (by rw [take_cut hcur (by omega), bvals_take])
  obtain ⟨news, hnews⟩ : ∃ news, news = bvals (l.drop (i + 1)) := ⟨_, rfl⟩
  have hnl : news.length = (N - i) * 3 := by rw [hnews, length_bvals, List.length_drop, hll]; omega
  have hn1 : ∀ u ∈ news, u.oneCell' = true := by rw [hnews]; exact bvals_oneCell _
  have hcell : ∀ j u, news[j]? = some u → w.drew.cell? ((⟨g, (i + 1) * 3, none⟩ : Addr).add j) = some u := by
    intro j u hu
    rw [add_at, (R.below (Below.refl _ _).drew).cell]
    rw [hnews, ← bvals_drop, List.getElem?_drop] at hu
    rw [← hcur, List.getElem?_take] at hu
    split at hu
    · exact hu
    · cases hu
  have HE : Hid (bvals (l.take i) ++ news = bvals (l.eraseIdx i)) := by
    show _ = _
    rw [hnews, ← bvals_append, List.eraseIdx_eq_take_drop_succ]
  have hsum : i + (N - i) = N := by omega
  have Hcell : Hid _ := hcell
  have Hnl : Hid _ := hnl
  clear hnews hcur own hcell hnl
  have h1 : (i : Int) + 1 ≤ N + 1 := by omega
  have h2 : i ≤ N + 1 := by omega
  have h3 : ((i : Int) == (i : Int) + 1) = false := by simp; omega
  have h4 : ((i : Int) + 1).toNat = i + 1 := by omega
  have h5 : i ≤ cap := by omega
  have h6 : ¬ (cap = N) := by omega
  have h7 : N + 1 - N = 1 := by omega
  have h8 : (i : Int) ≤ (cap : Int) := by omega
  have h9 : (i : Int) + 1 ≤ (cap : Int) := by omega
  have h10 : (i : Int) ≤ (N : Int) + 1 := by omega
  have h11 : (N : Int) ≤ (N : Int) + 1 := by omega
  have h12 : (N : Int) + 1 ≤ (cap : Int) := by omega
  have h13 : ((N : Int) + 1).toNat = N + 1 := by omega
  have h14 : ¬ (cap = i) := by omega
  have h15 : (0 : Int) ≤ (i : Int) + 1 := by omega
  by_cases hc' : cap = i + 1
  · have hc : (cap = i + 1) = True := eq_true hc'
    have HC : Hid (cap = i + 1) := hc'
    clear hc'
    go_enter Tryd.func33, Tryd.ntmps33
    go_wp2
    go_region_law (refine step_append_fits rfl (.tmp 22) (.tmp 25) 22 rfl 42 i1 3 Tryd.underlying22 hj hy1 base g i cap (bvals (l.take i)) (by simp [Act.eval, Act.put]) own1 (some ⟨g, 0, none⟩) (N - i) (cap - (i + 1)) news (by simp [Act.eval, Act.put]) Hnl.out ⟨_, rfl, fun j u hu => by have := Hnl.out; have hc' := HC.out; have h0 : news = [] := List.eq_nil_of_length_eq_zero (by omega); rw [h0] at hu; cases hu⟩ hn1 N hsum (by omega) ?_; intro w1 ho1 hb1)
    all_goals
      obtain ⟨_, _, cur1, R1, hcur1⟩ := Row.of ho1
      have hl1 := R1.len
      clear own1 Hcell Hnl hn1 ho1 R
      go_wp2_with (refine wpList_clear_k rfl (.tmp 31) 22 rfl 42 _ 3 Tryd.underlying22 zero_block rfl zero_one _ _ _ rfl g (N * 3) cur1 R1.h (fun _ => rfl) (by omega) ?_; intro w2 cur2 hg2 hb2)
      go_ret
      obtain ⟨g1, g2, g3⟩ := hg2.out
      have R2 : Row w2 42 3 g cap cur2 := ⟨g1, by rw [g2]; exact hl1, R1.m⟩
      exact ⟨rfl, R2.owns hbg (by omega) (by rw [g3, hcur1, HE.out]), ((But.of_below (Below.refl _ _).drew).trans hb1).trans hb2⟩
  · go_enter Tryd.func33, Tryd.ntmps33
    go_wp2
    go_region_law (refine step_append_fits rfl (.tmp 22) (.tmp 25) 22 rfl 42 i1 3 Tryd.underlying22 hj hy1 base g i cap (bvals (l.take i)) (by simp [Act.eval, Act.put]) own1 (some ⟨g, (i + 1) * 3, none⟩) (N - i) (cap - (i + 1)) news (by simp [Act.eval, Act.put]) Hnl.out ⟨_, rfl, Hcell.out⟩ hn1 N hsum (by omega) ?_; intro w1 ho1 hb1)
    all_goals
      obtain ⟨_, _, cur1, R1, hcur1⟩ := Row.of ho1
      have hl1 := R1.len
      clear own1 Hcell Hnl hn1 ho1 R
      go_wp2_with (refine wpList_clear_k rfl (.tmp 31) 22 rfl 42 _ 3 Tryd.underlying22 zero_block rfl zero_one _ _ _ rfl g (N * 3) cur1 R1.h (fun _ => rfl) (by omega) ?_; intro w2 cur2 hg2 hb2)
      go_ret
      obtain ⟨g1, g2, g3⟩ := hg2.out
      have R2 : Row w2 42 3 g cap cur2 := ⟨g1, by rw [g2]; exact hl1, R1.m⟩
      exact ⟨rfl, R2.owns hbg (by omega) (by rw [g3, hcur1, HE.out]), ((But.of_below (Below.refl _ _).drew).trans hb1).trans hb2⟩

end Go.Proofs.YtpfafhgllabhbaaDoor

/-
  OWN TEXT. Contract of the code: buddy.join.
-/
namespace Go.Proofs.YtpfafhgllabhbaaDoor
open Go Go.RowKit Go.Proofs.YtpfafhgllabhbaaDoor.Kit

set_option maxHeartbeats 1000000 in
theorem joinF_any (W : World) (b1 b2 : Nat) (x o : Int) (ba bo bt : Int) (c1 : W.cell? ⟨b1, 0, none⟩ = some (.int .i64 x)) (c2 : W.cell? ⟨b2, 0, none⟩ = some (.int .i64 o)) :
    Calls Tryd.prog 59 (#[.agg #[.int .i64 ba, .int .i64 bo, .int .i64 bt]] ++ #[.pointer (some ⟨b1, 0, none⟩), .pointer (some ⟨b2, 0, none⟩)]) W fun e W' => e = .returned (.bool (isB x o ⟨ba, bo, bt⟩)) ∧ Below W.heap.size W W' := by
  have hb0 := below_box W (.cells #[.int .i64 ba, .int .i64 bo, .int .i64 bt] 42)
  have d1 := keep c1 hb0
  have d2 := keep c2 hb0
  clear c1 c2
  by_cases g1 : ba = x
  · have HF : Hid ((bo == o) = isB x o ⟨ba, bo, bt⟩) := by
      show _ = decide (_ ∧ _)
      rw [show (bo == o) = decide (bo = o) from rfl]
      simp [g1]
    have g1' : (ba == x) = true := by simpa using g1
    clear g1
    go_enter Tryd.func59, Tryd.ntmps59
    go_wp2
    go_ret
    exact ⟨ret_bool HF.out, hb0⟩
  · have HF : Hid (false = isB x o ⟨ba, bo, bt⟩) := by
      show _ = decide (_ ∧ _)
      simp [g1]
    have g1' : (ba == x) = false := by simpa using g1
    clear g1
    go_enter Tryd.func59, Tryd.ntmps59
    go_wp2
    go_ret
    exact ⟨ret_bool HF.out, hb0⟩

theorem joinF_call (args : Array Value) (W : World) : (callFunc 59 args).run Tryd.prog W = .ok (.enter 59 args) W := by kernel_rfl

/-- What the loop of join knows: the zone behind the pointer, its row; the order in its box. -/
structure JnI (w : World) (base zb g cap ob : Nat) (f t : Int) (tv : Value) (l : List Bk) (n : Nat) (O : Int) (W : World) : Prop where
  b : Bu2 g zb w W
  box : ZBox W zb (.int .i64 f) (.int .i64 t) (.slice (some ⟨g, 0, none⟩) n cap) tv
  own : W.ownsRow base 42 3 (.slice (some ⟨g, 0, none⟩) n cap) n (bvals l)
  ord : W.cell? ⟨ob, 0, none⟩ = some (.int .i64 O)
  fz : W.frozen? ⟨ob, 0, none⟩ = false
theorem JnI.step {w : World} {base zb g cap ob : Nat} {f t : Int} {tv : Value} {l : List Bk} {n : Nat} {O : Int} {W W' : World} (h : JnI w base zb g cap ob f t tv l n O W) (hb : Below W.heap.size W W') : JnI w base zb g cap ob f t tv l n O W' :=
  ⟨h.b.trans (.of_below hb), h.box.below hb, owns_below h.own hb (Nat.le_refl _), keep h.ord hb, (hb.frozen (p := ⟨ob, 0, none⟩) (World.block_lt_of_cell? W _ h.ord)).trans h.fz⟩
theorem JnI.del {w : World} {base zb g cap ob : Nat} {f t : Int} {tv : Value} {l m : List Bk} {n k : Nat} {O : Int} {W W' : World} (h : JnI w base zb g cap ob f t tv l n O W) (hb : But g W W') (own : W'.ownsRow base 42 3 (.slice (some ⟨g, 0, none⟩) k cap) k (bvals m)) (hgz : g ≠ zb) (hgo : ob ≠ g) (hzo : ob ≠ zb) :
    JnI w base zb g cap ob f t tv m k O (W'.setCell ⟨zb, 2, none⟩ (.slice (some ⟨g, 0, none⟩) k cap)) := by
  have hbt : But zb W' (W'.setCell ⟨zb, 2, none⟩ (.slice (some ⟨g, 0, none⟩) k cap)) := (But.refl _ _).setCell _
  refine ⟨(h.b.trans (.of_but_g hb)).trans (.of_but_z hbt), (h.box.but hb (Ne.symm hgz)).set2 _, own_but own hbt hgz, hbt.cell (hb.cell h.ord hgo) hzo, ?_⟩
  have h1 := World.block_lt_of_cell? W _ h.ord
  have h2 := hb.block ob h1 hgo
  have h3 := hbt.block ob (Nat.lt_of_lt_of_le h1 hb.size) hzo
  exact (World.frozen?_of_block (a := ⟨ob, 0, none⟩) (h3.trans h2)).trans h.fz
theorem JnI.inc {w : World} {base zb g cap ob : Nat} {f t : Int} {tv : Value} {l : List Bk} {n : Nat} {O : Int} {W : World} (h : JnI w base zb g cap ob f t tv l n O W) (hgo : ob ≠ g) (hzo : ob ≠ zb) (ho : w.heap.size ≤ ob) (P : Int) : JnI w base zb g cap ob f t tv l n P (W.setCell ⟨ob, 0, none⟩ (.int .i64 P)) := by
  have hbt : But ob W (W.setCell ⟨ob, 0, none⟩ (.int .i64 P)) := (But.refl _ _).setCell _
  refine ⟨⟨hbt.os.trans h.b.os, hbt.tape.trans h.b.tape, hbt.output.trans h.b.output, Nat.le_trans h.b.size hbt.size, fun k hk h1 h2 => (hbt.block k (Nat.lt_of_lt_of_le hk h.b.size) (by omega)).trans (h.b.block k hk h1 h2)⟩, h.box.but hbt (Ne.symm hzo), own_but h.own hbt (Ne.symm hgo), World.cell?_setCell_same _ _ _ h.ord, by simpa using h.fz⟩

set_option maxHeartbeats 4000000 in
theorem join_any (w : World) (base zb g n cap : Nat) (f t : Int) (tv : Value) (l : List Bk) (a o : Int) (hz : newOk f t)
    (Z : ZBox w zb (.int .i64 f) (.int .i64 t) (.slice (some ⟨g, 0, none⟩) n cap) tv) (own : w.ownsRow base 42 3 (.slice (some ⟨g, 0, none⟩) n cap) n (bvals l)) (hgz : g ≠ zb) (hn : n ≤ 256)
    (hI : Inc l) (hL : ∀ b ∈ l, blkIn f t b.a b.o) (hA : blkIn f t a o) (R : List Bk × Int × Int) (hR : backGo (4 - o).toNat l a o = R) :
    Calls Tryd.prog 54 #[.pointer (some ⟨zb, 0, none⟩), .int .i64 a, .int .i64 o] w fun e w' => (∃ n', e = .returned (.tuple #[.int .i64 R.2.1, .int .i64 R.2.2]) ∧ n' ≤ n ∧
      ZBox w' zb (.int .i64 f) (.int .i64 t) (.slice (some ⟨g, 0, none⟩) n' cap) tv ∧ w'.ownsRow base 42 3 (.slice (some ⟨g, 0, none⟩) n' cap) n' (bvals R.1) ∧ Bu2 g zb w w') ∧ blkIn f t R.2.1 R.2.2 := by
  obtain ⟨n1, n2, n3, n4, n5⟩ := hz
  have hzl := Z.lt
  have hgl : g < w.heap.size := (own.lt _ rfl).2
  have hb0 := below_box w (.cells #[.int .i64 o] 3)
  obtain ⟨W0, hW0⟩ : ∃ W0, w.alloc (.cells #[.int .i64 o] 3) = W0 := ⟨_, rfl⟩
  have J0 : JnI w base zb g cap w.heap.size f t tv l n o W0 := by
    rw [← hW0]
    exact ⟨.of_below hb0, Z.below hb0, owns_below own hb0 (Nat.le_refl _), by simp, by simp⟩
  have HR : Hid (backGo (4 - o).toNat l a o = R) := hR
  have HW0 : Hid _ := hW0
  have go1 : w.heap.size ≠ g := by omega
  have go2 : w.heap.size ≠ zb := by omega
  clear hW0 hb0 Z own hR
  go_enter Tryd.func54, Tryd.ntmps54
  go_wp2_with (rw [HW0.out])
  clear HW0
  go_loopw [1] (fun av W => ∃ (A O : Int) (l' : List Bk) (n' : Nat), av = .int .i64 A ∧ blkIn f t A O ∧ Hid (backGo (4 - O).toNat l' A O = R) ∧ Hid (Inc l') ∧ (∀ b ∈ l', blkIn f t b.a b.o) ∧ n' ≤ n ∧ JnI w base zb g cap w.heap.size f t tv l' n' O W) (fun _ W => (4 - intOf ((W.cell? ⟨w.heap.size, 0, none⟩).getD undef)).toNat)
  case atStart => exact ⟨a, o, l, n, rfl, hA, HR, hI, hL, Nat.le_refl _, J0⟩
  case round =>
    obtain ⟨A, O, l', n', rfl, hA', hG, hI', hL', hn', J⟩ := hrel
    clear J0 HR hI hL hA
    obtain ⟨⟨o0, o4⟩, a1, a2, a3⟩ := id hA'
    obtain ⟨AN, rfl⟩ : ∃ AN : Nat, A = AN := ⟨A.toNat, by omega⟩
    have x2 := J.box.c2
    have z2 := J.box.z2
    have xo := J.ord
    have fo := J.fz
    have hsr := J.b.size
    have HXO : Hid (wr.cell? ⟨w.heap.size, 0, none⟩ = some (.int .i64 O)) := J.ord
    by_cases hO : O < 4
    · obtain ⟨X, hX⟩ : ∃ X, besideA (AN : Int) O = X := ⟨_, rfl⟩
      have HC := beside_any wr AN O ⟨o0, o4⟩ hO (by omega) a3
      rw [hX] at HC
      have HX : Hid (besideA (AN : Int) O = X) := hX
      obtain ⟨m, hm⟩ : ∃ m : Nat, (4 - O).toNat = m + 1 := ⟨(4 - O).toNat - 1, by omega⟩
      have hm2 : (4 - (O + 1)).toNat = m := by omega
      have hG1 : Hid (backGo (m + 1) l' (AN : Int) O = R) := by have := hG.out; rw [hm] at this; exact this
      clear hX hG
      go_wp2_with fail
      go_at_call 57
      refine HC.mono ?_
      rintro e w' ⟨rfl, rfl⟩
      clear HC
      have hbx := below_box wr (.cells #[.int .i64 X] 3)
      have J1 := J.step hbx
      have q1 : (wr.alloc (.cells #[.int .i64 X] 3)).cell? ⟨wr.heap.size, 0, none⟩ = some (.int .i64 X) := by simp
      obtain ⟨W1, hW1⟩ : ∃ W1, wr.alloc (.cells #[.int .i64 X] 3) = W1 := ⟨_, rfl⟩
      rw [hW1] at J1 q1
      have HW1 : Hid _ := hW1
      have y2 := J1.box.c2
      have yo := J1.ord
      have hlen := bowns_len J1.own
      have hHold : HoldsB 59 #[.pointer (some ⟨wr.heap.size, 0, none⟩), .pointer (some ⟨w.heap.size, 0, none⟩)] l' (isB X O) W1 := fun i hi W hb => joinF_any W _ _ X O _ _ _ (keep q1 hb) (keep yo hb)
      have HIx := bIndex_any W1 59 #[.pointer (some ⟨wr.heap.size, 0, none⟩), .pointer (some ⟨w.heap.size, 0, none⟩)] (some ⟨g, 0, none⟩) n' cap l' (isB X O) (blks_own J1.own (by omega)) joinF_call hHold
      clear hHold hW1 hbx J x2 z2 xo fo
      go_wp2_with (first | (rw [HW1.out]) | fail)
      go_at_call 38
      refine HIx.mono ?_
      rintro e W2 ⟨hf, hb2⟩
      have J2 := J1.step hb2
      have q2 := keep q1 hb2
      clear HIx J1 q1 y2 yo hb2 HW1
      have y2 := J2.box.c2
      have z2 := J2.box.z2
      have yo := J2.ord
      have fo := J2.fz
      rcases hf with ⟨k, hk, rfl, hk1, hk2⟩ | ⟨rfl, hk1⟩
      · obtain ⟨N, rfl⟩ : ∃ N, n' = N + 1 := ⟨n' - 1, by omega⟩
        have HD := bDel_any W2 base g N cap k l' (by omega) (by omega) J2.own
        have HE : Hid (l'.eraseIdx k = dropB l' X O) := erase_eq hI'.out hk hk1
        have hh : hasB l' X O = true := has_of hk hk1
        rw [HE.out] at HD
        obtain ⟨A2, hA2⟩ : ∃ A2, (if X < (AN : Int) then X else (AN : Int)) = A2 := ⟨_, rfl⟩
        have hG2 : Hid (backGo (4 - (O + 1)).toNat (dropB l' X O) A2 (O + 1) = R) := by
          show _ = _
          rw [hm2, ← hG1.out, backGo, HX.out, if_pos hh, hA2]
        have hB2 : blkIn f t A2 (O + 1) := by
          have h1 := join_in hA' (by rw [HX.out]; exact hasB_in hh hL') hO
          rw [HX.out, hA2] at h1
          exact h1
        have hL2 : ∀ b ∈ dropB l' X O, blkIn f t b.a b.o := fun b hb => hL' b (dropB_mem hb)
        have hI2 : Hid (Inc (dropB l' X O)) := hI'.out.drop X O
        obtain ⟨D, hD⟩ : ∃ D, dropB l' X O = D := ⟨_, rfl⟩
        rw [hD] at hG2 hL2 hI2 HD
        clear hk1 hk2 HE hh hG1 hI' hL' hD
        go_wp2_with fail
        go_at_call 33
        refine HD.mono ?_
        rintro e W3 ⟨rfl, own3, hb3⟩
        have J3 := J2.del hb3 own3 hgz go1 go2
        have q3 := hb3.cell q2 (by omega)
        have o3 := hb3.cell J2.ord go1
        have B3 := J2.box.but hb3 (Ne.symm hgz)
        have u2 := B3.c2
        have v2 := B3.z2
        have f3 : W3.frozen? ⟨w.heap.size, 0, none⟩ = false := by
          have h2 := hb3.block w.heap.size (World.block_lt_of_cell? W2 _ J2.ord) go1
          exact (World.frozen?_of_block (a := ⟨w.heap.size, 0, none⟩) h2).trans J2.fz
        have J5 := J3.inc go1 go2 (Nat.le_refl _) (O + 1)
        have gw : ¬ (wr.heap.size = zb) := by omega
        have gw2 : ¬ (w.heap.size = zb) := go2
        have gz1 : ¬ (zb = w.heap.size) := by omega
        have gz2 : ¬ (zb = wr.heap.size) := by omega
        clear HD J2 J3 B3 y2 z2 yo fo q2 hb3 own3
        by_cases hXA : X < (AN : Int)
        · obtain rfl : A2 = X := by rw [← hA2, if_pos hXA]
          clear hA2
          go_wp2
          refine ⟨⟨A2, O + 1, D, N, rfl, hB2, hG2, hI2, hL2, by omega, J5⟩, ?_⟩
          rw [J5.ord, HXO.out]
          simp [intOf]; omega
        · obtain rfl : A2 = (AN : Int) := by rw [← hA2, if_neg hXA]
          clear hA2
          go_wp2
          refine ⟨⟨AN, O + 1, D, N, rfl, hB2, hG2, hI2, hL2, by omega, J5⟩, ?_⟩
          rw [J5.ord, HXO.out]
          simp [intOf]; omega
      · have HF : Hid (R = (l', ((AN : Int)), O)) := by
          show _ = _
          rw [← hG1.out, backGo, HX.out, if_neg (by rw [has_none hk1]; simp)]
        clear hk1 hG1 hI'
        go_wp2
        go_region
        all_goals
          have K5 := J2.step (Below.refl _ _).drew
          go_wp2
          go_ret2
          rw [HF.out]
          exact ⟨⟨n', rfl, hn', K5.box, K5.own, K5.b⟩, hA'⟩
    · have HF : Hid (R = (l', ((AN : Int)), O)) := by
        show _ = _
        have := hG.out
        rw [show (4 - O).toNat = 0 by omega] at this
        exact this.symm
      clear hG hI'
      go_wp2
      go_region
      all_goals
        have K5 := J.step (Below.refl _ _).drew
        go_wp2
        go_ret2
        rw [HF.out]
        exact ⟨⟨n', rfl, hn', K5.box, K5.own, K5.b⟩, hA'⟩

end Go.Proofs.YtpfafhgllabhbaaDoor

/-
  OWN TEXT. Contract of slices.ContainsFunc over blocks, whatever the closure.
-/
namespace Go.Proofs.YtpfafhgllabhbaaDoor
open Go Go.RowKit Go.Proofs.YtpfafhgllabhbaaDoor.Kit

set_option maxHeartbeats 1000000 in
theorem bContains_any (w : World) (F : Nat) (caps : Array Value) (ao : Option Addr) (n cap : Nat) (l : List Bk) (g : Bk → Bool) (h : Blks w ao n l)
    (hcall : ∀ args W, (callFunc F args).run Tryd.prog W = .ok (.enter F args) W) (hc : HoldsB F caps l g w) :
    Calls Tryd.prog 52 #[.slice ao n cap, .func (.func F) #[] caps] w fun e w' => e = .returned (.bool (l.any g)) ∧ Below w.heap.size w w' := by
  go_enter Tryd.func52, Tryd.ntmps52
  go_wp2_with fail
  go_at_call 38
  refine (bIndex_any w F caps ao n cap l g h hcall hc).mono ?_
  rintro e w1 ⟨hf, hb⟩
  rcases hf with ⟨k, hk, rfl, hg, _⟩ | ⟨rfl, hg⟩
  · have HF : Hid (l.any g = true) := any_of_found hk hg
    clear hg hc
    go_wp2
    go_ret
    exact ⟨ret_bool HF.out.symm, hb⟩
  · have HF : Hid (l.any g = false) := any_of_none hg
    clear hg hc
    go_wp2
    go_ret
    exact ⟨ret_bool HF.out.symm, hb⟩

end Go.Proofs.YtpfafhgllabhbaaDoor
