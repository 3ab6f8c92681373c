/-
  OWN TEXTS, bundled: ZInv, ZUnq, HDrP, ZTyp, ZcTypA, LKeep0.
-/
import Derived.Test.YtbjlbmofdnkmiaaPagesFreesPart15
import Derived.Test.YtbjlbmofdnkmiaaPagesFreesPart13
import Derived.Test.YtbjlbmofdnkmiaaPagesFreesPart3
import Derived.Test.YtbjlbmofdnkmiaaPagesFreesPart9

/-
  OWN TEXT. A zone from which blocks were taken, and to which some came back: plain mathematics.
-/
namespace Go.Proofs.Ytbjlbmofdnkmiaa.Kit

/-- The zone, and the blocks that are away: no page is in two, all others are free. -/
structure ZI (z : Zn) (aw : List Bk) : Prop where
  may : ZMay z
  f : z.f = 16
  t : z.t = 112
  all : ∀ b ∈ aw, blkIn 16 112 b.a b.o
  cnt : ∀ p, cnt z.free p + cnt aw p = if 18 ≤ p ∧ p < 108 then 1 else 0

theorem ZI.sum {z : Zn} {aw : List Bk} (h : ZI z aw) (p : Int) : Kit.cnt z.free p + Kit.cnt aw p ≤ 1 := by
  rw [h.cnt p]
  split <;> omega

theorem getB_mem {l : List Bk} {k : Nat} (h : k < l.length) : l.getD k .zero ∈ l := by
  rw [List.getD_eq_getElem?_getD, List.getElem?_eq_getElem h]
  exact List.getElem_mem _

theorem cnt_erase {l : List Bk} {k : Nat} (h : k < l.length) (p : Int) : cnt (l.eraseIdx k) p + hit (l.getD k .zero).a (l.getD k .zero).o p = cnt l p := by
  have e : cnt l p = cnt (l.take k) p + (hit (l.getD k .zero).a (l.getD k .zero).o p + cnt (l.drop (k + 1)) p) := by
    conv => lhs; rw [cut_at l h]
    rw [cnt_append]
    rfl
  rw [e, List.eraseIdx_eq_take_drop_succ, cnt_append]
  omega

theorem zi_back {z : Zn} {aw : List Bk} (h : ZI z aw) {k : Nat} (hk : k < aw.length) {a o t : Int} (hb : aw.getD k .zero = ⟨a, o, t⟩) :
    blkIn z.f z.t a o ∧ ¬ ovlP z.free a o ∧ ZI (backZ z a o) (aw.eraseIdx k) := by
  have hin := h.all _ (getB_mem hk)
  rw [hb] at hin
  dsimp only at hin
  have hin' : blkIn z.f z.t a o := by rw [h.f, h.t]; exact hin
  have hc : ∀ p, cnt (aw.eraseIdx k) p + hit a o p = cnt aw p := fun p => by
    have := cnt_erase hk p
    rw [hb] at this
    exact this
  have hno : ¬ ovlP z.free a o := no_ovl fun p => by have := h.sum p; have := hc p; omega
  have hah := (free_iff.1 h.may.free).2
  refine ⟨hin', hno, backZ_may h.may hin' hno, h.f, h.t, fun b hb => h.all b (List.mem_of_mem_eraseIdx hb), fun p => ?_⟩
  rw [cnt_back hah hin.1.1 hin.2.2.2 p, ← h.cnt p, ← hc p]
  omega

theorem mod_down {a o b : Int} (hb : ordOk b) (h0 : 0 ≤ o) (h1 : o ≤ b) (h : a % pw b = 0) : a % pw o = 0 := by
  rcases ord_cases hb with ⟨rfl, e⟩ | ⟨rfl, e⟩ | ⟨rfl, e⟩ | ⟨rfl, e⟩ | ⟨rfl, e⟩ <;> rw [e] at h <;>
    rcases ord_cases (o := o) ⟨h0, by omega⟩ with ⟨rfl, e'⟩ | ⟨rfl, e'⟩ | ⟨rfl, e'⟩ | ⟨rfl, e'⟩ | ⟨rfl, e'⟩ <;> rw [e'] <;> omega

theorem zi_take {z : Zn} {aw : List Bk} (h : ZI z aw) {o t : Int} (ho : ordOk o) (ht : typeOk t) {i : Nat} (hC : chooseI z.free o t = i) :
    ZI (takeZ z o t i) (aw ++ [⟨(z.free.getD i .zero).a, o, 0⟩]) := by
  obtain ⟨j, e, hj, hob⟩ := choose_in (l := z.free) (o := o) (t := t) (by omega)
  obtain rfl : j = i := by omega
  obtain ⟨⟨b1, a1, a2, a3⟩, b2, _⟩ := freeOk_at h.may.free hj rfl
  have hM := takeZ_may h.may ho.1 ht hj b2 a1
  have hf : (takeZ z o t j).f = z.f := by unfold takeZ; dsimp only; split <;> rfl
  have htt : (takeZ z o t j).t = z.t := by unfold takeZ; dsimp only; split <;> rfl
  refine ⟨hM, hf.trans h.f, htt.trans h.t, fun b hb => ?_, fun p => ?_⟩
  · rcases List.mem_append.1 hb with hb | hb
    · exact h.all b hb
    · rw [List.mem_singleton] at hb
      subst hb
      dsimp only
      rw [h.f] at a1
      rw [h.t] at a2
      exact ⟨ho, a1, a2, mod_down b1 ho.1 hob a3⟩
  · rw [cnt_append, cnt_one, ← h.cnt p, ← cnt_take (t := t) hj ho.1 hob p]
    dsimp only
    omega

/-- The zone at the beginning. -/
def firstZ : Option Zn := giveK 90 (newZ 16 112) 18

theorem newZ_may {f t : Int} (h : newOk f t) : ZMay (newZ f t) := by
  obtain ⟨h1, h2, h3, h4, h5⟩ := h
  refine ⟨⟨h1, h2, h3, h4, h5⟩, ?_, ?_, trivial⟩
  · show 8 * ((newTypes f t).length : Int) = t - f
    unfold newTypes
    rw [List.length_replicate]
    omega
  · intro i hi
    have hi' : i < (newTypes f t).length := hi
    show typeOk ((newTypes f t).getD i 0)
    unfold newTypes at hi' ⊢
    rw [List.length_replicate] at hi'
    rw [List.getD_eq_getElem?_getD, List.getElem?_replicate, if_pos hi']
    exact ⟨by decide, by decide⟩

theorem zi_first : ∃ Y, firstZ = some Y ∧ ZI Y [] := by
  have hn : newOk 16 112 := ⟨by omega, by omega, by omega, by omega, by omega⟩
  obtain ⟨Y, e, k1, k2, k3, _, k5⟩ := give_cnt 90 (newZ 16 112) 18 (newZ_may hn) (by show (16 : Int) ≤ 18; omega) (by show (18 : Int) + (90 : Nat) ≤ 112; omega) (fun p _ => rfl)
  refine ⟨Y, e, k1, k2, k3, fun b hb => by simp at hb, fun p => ?_⟩
  rw [k5]
  have e0 : cnt (newZ 16 112).free p = 0 := rfl
  have e1 : cnt ([] : List Bk) p = 0 := rfl
  rw [e0, e1]
  simp only [Nat.zero_add, Nat.add_zero]
  split <;> split <;> omega

end Go.Proofs.Ytbjlbmofdnkmiaa.Kit

/-
  OWN TEXT. Blocks that are put together as often as they can be are told by their pages: plain mathematics.
-/
namespace Go.Proofs.Ytbjlbmofdnkmiaa.Kit

theorem hit_one {a o p : Int} : 0 < hit a o p ↔ a ≤ p ∧ p < a + pw o := by
  unfold hit
  split <;> simp_all
theorem cnt_pos {l : List Bk} {p : Int} : 0 < cnt l p ↔ ∃ b ∈ l, b.a ≤ p ∧ p < b.a + pw b.o := by
  induction l with
  | nil => simp [cnt]
  | cons x l ih =>
    constructor
    · intro h
      simp only [cnt] at h
      by_cases hx : 0 < hit x.a x.o p
      · exact ⟨x, by simp, hit_one.1 hx⟩
      · obtain ⟨b, hb, g⟩ := ih.1 (by omega)
        exact ⟨b, by simp [hb], g⟩
    · rintro ⟨b, hb, g⟩
      simp only [cnt]
      rcases List.mem_cons.1 hb with rfl | hb
      · have := hit_one.2 g; omega
      · have := ih.2 ⟨b, hb, g⟩; omega

/-- Two blocks of a list that rises. -/
theorem ahead_two {l : List Bk} (h : l.Pairwise Ahead) {p q : Bk} (hp : p ∈ l) (hq : q ∈ l) (hlt : p.a < q.a) : Ahead p q := by
  induction l with
  | nil => simp at hp
  | cons x l ih =>
    obtain ⟨h1, h2⟩ := List.pairwise_cons.1 h
    rcases List.mem_cons.1 hp with rfl | hp'
    · rcases List.mem_cons.1 hq with rfl | hq'
      · omega
      · exact h1 q hq'
    · rcases List.mem_cons.1 hq with rfl | hq'
      · have := (h1 p hp').1
        have := pw_pos q.o
        omega
      · exact ih h2 hp' hq'

/-- An aligned block that lies in a greater aligned one. -/
theorem up_in {a b k o : Int} (hk : ordOk k) (ho : ordOk o) (hko : k ≤ o) (ha : a % pw k = 0) (hb : b % pw o = 0) (h1 : b ≤ a) (h2 : a < b + pw o) : a + pw k ≤ b + pw o := by
  rcases ord_cases ho with ⟨rfl, e⟩ | ⟨rfl, e⟩ | ⟨rfl, e⟩ | ⟨rfl, e⟩ | ⟨rfl, e⟩ <;> rw [e] at hb h2 ⊢ <;>
    rcases ord_cases hk with ⟨rfl, f⟩ | ⟨rfl, f⟩ | ⟨rfl, f⟩ | ⟨rfl, f⟩ | ⟨rfl, f⟩ <;> rw [f] at ha ⊢ <;> omega

/-- Pages of an aligned block that are all in blocks lie in one. -/
theorem whole_in {f t : Int} {l : List Bk} (hl : AllIn f t l) (hA : l.Pairwise Ahead) : ∀ (k : Nat) (c : Int), k ≤ 4 → c % pw k = 0 → (∀ p, c ≤ p → p < c + pw k → 0 < cnt l p) → ∃ b ∈ l, b.a ≤ c ∧ c + pw k ≤ b.a + pw b.o := by
  intro k
  induction k with
  | zero =>
    intro c _ _ h
    have e : pw ((0 : Nat) : Int) = 1 := pw_0
    rw [e] at h ⊢
    obtain ⟨b, hb, g1, g2⟩ := cnt_pos.1 (h c (by omega) (by omega))
    exact ⟨b, hb, g1, by omega⟩
  | succ k ih =>
    intro c hk hc h
    have e : pw ((k + 1 : Nat) : Int) = 2 * pw (k : Int) := by
      rw [show ((k + 1 : Nat) : Int) = (k : Int) + 1 by omega]
      exact pw_succ _ (by omega)
    have hp := pw_pos (k : Int)
    have ok : ordOk (k : Int) := ⟨by omega, by omega⟩
    have ok1 : ordOk ((k + 1 : Nat) : Int) := ⟨by omega, by omega⟩
    have c1 : c % pw (k : Int) = 0 := mod_down ok1 (by omega) (by omega) hc
    have c2 : (c + pw (k : Int)) % pw (k : Int) = 0 := by rw [Int.add_emod_right]; exact c1
    rw [e] at h
    obtain ⟨b1, m1, g1, g2⟩ := ih c (by omega) c1 (fun p q1 q2 => h p q1 (by omega))
    obtain ⟨b2, m2, g3, g4⟩ := ih (c + pw (k : Int)) (by omega) c2 (fun p q1 q2 => h p (by omega) (by omega))
    obtain ⟨⟨o1, _, _, al1⟩, _⟩ := hl b1 m1
    obtain ⟨⟨o2, _, _, al2⟩, _⟩ := hl b2 m2
    by_cases s1 : ((k + 1 : Nat) : Int) ≤ b1.o
    · exact ⟨b1, m1, g1, up_in ok1 o1 s1 hc al1 g1 (by omega)⟩
    · by_cases s2 : ((k + 1 : Nat) : Int) ≤ b2.o
      · refine ⟨b2, m2, ?_, ?_⟩
        · have := pw_pos b2.o
          have hd : c % pw ((k + 1 : Nat) : Int) = 0 := hc
          -- the greater block that holds the upper half holds the lower one
          rcases ord_cases o2 with ⟨q, e2⟩ | ⟨q, e2⟩ | ⟨q, e2⟩ | ⟨q, e2⟩ | ⟨q, e2⟩ <;> rw [e2] at al2 g4 <;>
            rcases ord_cases ok1 with ⟨r, e3⟩ | ⟨r, e3⟩ | ⟨r, e3⟩ | ⟨r, e3⟩ | ⟨r, e3⟩ <;> rw [e3] at hd e <;> omega
        · omega
      · exfalso
        have e1 : pw b1.o ≤ pw (k : Int) := pw_mono (by omega)
        have e2 : pw b2.o ≤ pw (k : Int) := pw_mono (by omega)
        have q1 : b1.a = c := by omega
        have q2 : b2.a = c + pw (k : Int) := by omega
        have z1 : b1.o = k := by
          rcases ord_cases o1 with ⟨q, w1⟩ | ⟨q, w1⟩ | ⟨q, w1⟩ | ⟨q, w1⟩ | ⟨q, w1⟩ <;> rcases ord_cases ok with ⟨r, w2⟩ | ⟨r, w2⟩ | ⟨r, w2⟩ | ⟨r, w2⟩ | ⟨r, w2⟩ <;> rw [w1, w2] at e1 <;> rw [w1, w2] at g2 <;> omega
        have z2 : b2.o = k := by
          rcases ord_cases o2 with ⟨q, w1⟩ | ⟨q, w1⟩ | ⟨q, w1⟩ | ⟨q, w1⟩ | ⟨q, w1⟩ <;> rcases ord_cases ok with ⟨r, w2⟩ | ⟨r, w2⟩ | ⟨r, w2⟩ | ⟨r, w2⟩ | ⟨r, w2⟩ <;> rw [w1, w2] at e2 <;> rw [w1, w2] at g4 <;> omega
        have hah := ahead_two hA m1 m2 (by omega)
        refine hah.2 ⟨by omega, by omega, ?_, ?_⟩
        · rw [z2, q1, q2]
        · rw [z2, q1, show (k : Int) + 1 = ((k + 1 : Nat) : Int) by omega]; exact hc

theorem same_of {l : List Bk} (hA : l.Pairwise Ahead) {p q : Bk} (hp : p ∈ l) (hq : q ∈ l) (h1 : q.a ≤ p.a) (h2 : p.a < q.a + pw q.o) : p = q := by
  by_cases e : p.a = q.a
  · induction l with
    | nil => simp at hp
    | cons x l ih =>
      obtain ⟨k1, k2⟩ := List.pairwise_cons.1 hA
      have px := pw_pos x.o
      rcases List.mem_cons.1 hp with rfl | hp'
      · rcases List.mem_cons.1 hq with rfl | hq'
        · rfl
        · have := (k1 q hq').1; omega
      · rcases List.mem_cons.1 hq with rfl | hq'
        · have := (k1 p hp').1; omega
        · exact ih k2 hp' hq'
  · have := (ahead_two hA hq hp (by omega)).1
    omega

/-- A block of the one is a block of the other. -/
theorem in_other {f t : Int} {l m : List Bk} (hl : AllIn f t l) (hlA : l.Pairwise Ahead) (hm : AllIn f t m) (hmA : m.Pairwise Ahead) (hc : ∀ p, cnt l p = cnt m p) {b : Bk} (hb : b ∈ l) : ∃ b' ∈ m, b'.a = b.a ∧ b'.o = b.o := by
  obtain ⟨⟨⟨o0, o4⟩, _, _, al⟩, _⟩ := hl b hb
  have e : ((b.o.toNat : Nat) : Int) = b.o := by omega
  obtain ⟨b', hb', g1, g2⟩ := whole_in hm hmA b.o.toNat b.a (by omega) (by rw [e]; exact al) (fun p q1 q2 => by
    rw [e] at q2
    rw [← hc]
    exact cnt_pos.2 ⟨b, hb, q1, q2⟩)
  rw [e] at g2
  obtain ⟨⟨⟨o0', o4'⟩, _, _, al'⟩, _⟩ := hm b' hb'
  have e' : ((b'.o.toNat : Nat) : Int) = b'.o := by omega
  obtain ⟨b2, hb2, g3, g4⟩ := whole_in hl hlA b'.o.toNat b'.a (by omega) (by rw [e']; exact al') (fun p q1 q2 => by
    rw [e'] at q2
    rw [hc]
    exact cnt_pos.2 ⟨b', hb', q1, q2⟩)
  rw [e'] at g4
  have hp := pw_pos b.o
  have hp' := pw_pos b'.o
  have hs : b = b2 := same_of hlA hb hb2 (by omega) (by omega)
  subst hs
  have ea : b'.a = b.a := by omega
  refine ⟨b', hb', ea, ?_⟩
  have ep : pw b'.o = pw b.o := by omega
  rcases ord_cases (o := b.o) ⟨o0, o4⟩ with ⟨q, w1⟩ | ⟨q, w1⟩ | ⟨q, w1⟩ | ⟨q, w1⟩ | ⟨q, w1⟩ <;> rcases ord_cases (o := b'.o) ⟨o0', o4'⟩ with ⟨r, w2⟩ | ⟨r, w2⟩ | ⟨r, w2⟩ | ⟨r, w2⟩ | ⟨r, w2⟩ <;> rw [w1, w2] at ep <;> omega

theorem rise_eq : ∀ (l m : List (Int × Int)), l.Pairwise (fun x y => x.1 < y.1) → m.Pairwise (fun x y => x.1 < y.1) → (∀ x, x ∈ l ↔ x ∈ m) → l = m := by
  intro l
  induction l with
  | nil =>
    intro m _ _ h
    cases m with
    | nil => rfl
    | cons y m => exact absurd ((h y).2 (by simp)) (by simp)
  | cons x l ih =>
    intro m hl hm h
    cases m with
    | nil => exact absurd ((h x).1 (by simp)) (by simp)
    | cons y m =>
      obtain ⟨a1, a2⟩ := List.pairwise_cons.1 hl
      obtain ⟨b1, b2⟩ := List.pairwise_cons.1 hm
      have hxy : x = y := by
        rcases List.mem_cons.1 ((h x).1 (by simp)) with e | e
        · exact e
        · rcases List.mem_cons.1 ((h y).2 (by simp)) with e' | e'
          · exact e'.symm
          · have := b1 x e; have := a1 y e'; omega
      subst hxy
      rw [ih m a2 b2 fun z => ?_]
      constructor
      · intro hz
        rcases List.mem_cons.1 ((h z).1 (by simp [hz])) with e | e
        · have := a1 z hz; rw [e] at this; omega
        · exact e
      · intro hz
        rcases List.mem_cons.1 ((h z).2 (by simp [hz])) with e | e
        · have := b1 z hz; rw [e] at this; omega
        · exact e

/-- The places and orders. -/
def ao (l : List Bk) : List (Int × Int) := l.map fun b => (b.a, b.o)

theorem free_unique {z y : Zn} (hz : ZMay z) (hy : ZMay y) (hf : z.f = y.f) (ht : z.t = y.t) (hc : ∀ p, cnt z.free p = cnt y.free p) : ao z.free = ao y.free := by
  obtain ⟨z1, z2⟩ := free_iff.1 hz.free
  obtain ⟨y1, y2⟩ := free_iff.1 hy.free
  rw [hf, ht] at z1
  have inc : ∀ l : List Bk, l.Pairwise Ahead → (ao l).Pairwise (fun x y => x.1 < y.1) := fun l h => by
    unfold ao
    rw [List.pairwise_map]
    exact h.imp fun {a b} hab => by have := hab.1; have := pw_pos a.o; show a.a < b.a; omega
  refine rise_eq _ _ (inc _ z2) (inc _ y2) fun x => ?_
  unfold ao
  rw [List.mem_map, List.mem_map]
  constructor
  · rintro ⟨b, hb, rfl⟩
    obtain ⟨b', hb', e1, e2⟩ := in_other z1 z2 y1 y2 hc hb
    exact ⟨b', hb', by rw [e1, e2]⟩
  · rintro ⟨b, hb, rfl⟩
    obtain ⟨b', hb', e1, e2⟩ := in_other y1 y2 z1 z2 (fun p => (hc p).symm) hb
    exact ⟨b', hb', by rw [e1, e2]⟩

end Go.Proofs.Ytbjlbmofdnkmiaa.Kit

/-
  OWN TEXT. Pages of a heap, counted; blocks and pages of lists may go back: plain mathematics.
-/
namespace Go.Proofs.Ytbjlbmofdnkmiaa
open Go.Proofs.Ytbjlbmofdnkmiaa.Kit

theorem apt_cnt : ∀ (l P : List Bk), Apt P l → (∀ p, cnt P p ≤ 1) → ∀ p, cnt (P ++ l) p ≤ 1
  | [], P, _, hP, p => by simpa using hP p
  | b :: l, P, h, hP, p => by
    rw [show b :: l = [b] ++ l from rfl, apt_append, apt_one] at h
    have h1 : ∀ p, cnt (P ++ [b]) p ≤ 1 := fun p => by
      rw [cnt_append, cnt_one]
      have hp := hP p
      by_cases c : hit b.a b.o p = 0
      · omega
      · have hh := hit_one.1 (Nat.pos_of_ne_zero c)
        have h0 : cnt P p = 0 := by
          by_cases g : cnt P p = 0
          · exact g
          · obtain ⟨x, hx, h1, h2⟩ := cnt_pos.1 (Nat.pos_of_ne_zero g)
            exact absurd ((ovlP_mem P b.a b.o).2 ⟨x, hx, by omega, by omega⟩) h.1
        have h1 : hit b.a b.o p ≤ 1 := by unfold hit; split <;> omega
        omega
    have := apt_cnt l (P ++ [b]) h.2 h1 p
    rwa [List.append_assoc] at this
theorem cnt_apt {P l : List Bk} (h : ∀ p, cnt (P ++ l) p ≤ 1) : Apt P l := by
  intro k hk
  refine no_ovl fun p => ?_
  have e : cnt (P ++ l) p = cnt (P ++ l.take k) p + (hit (l.getD k .zero).a (l.getD k .zero).o p + cnt (l.drop (k + 1)) p) := by
    conv => lhs; rw [cut_at l hk]
    rw [← List.append_assoc, cnt_append]
    rfl
  have := h p
  omega

theorem zs_two {H : Hp} (h : H.zones.length = 2) : H.zones = [H.zones.getD 0 ⟨0, 0, [], []⟩, H.zones.getD 1 ⟨0, 0, [], []⟩] := by
  obtain ⟨zs, _, _, _, _⟩ := H
  dsimp only at h ⊢
  match zs, h with
  | [a, b], _ => rfl
/-- How many free blocks have a page. -/
def zcnt (H : Hp) (p : Int) : Nat := cnt (H.zones.flatMap (·.free)) p
theorem zcnt_two {H : Hp} (h : H.zones.length = 2) (p : Int) : zcnt H p = cnt (H.zones.getD 0 ⟨0, 0, [], []⟩).free p + cnt (H.zones.getD 1 ⟨0, 0, [], []⟩).free p := by
  unfold zcnt
  rw [zs_two h]
  simp [cnt_append]

/-- A BLOCK GOES BACK: it may, and the zones stay such that may be. -/
theorem backH_ok {H : Hp} (hz : ZsOk H) {a o : Int} (ho : ordOk o) (hm : a % pw o = 0) (h0 : 0 ≤ a) (h1 : a < 256) (hc : ∀ p, zcnt H p + hit a o p ≤ 1) :
    CanBack H a o ∧ ZsOk (backH H a o) ∧ ∀ p, zcnt (backH H a o) p = zcnt H p + hit a o p := by
  have hc' : ∀ p, cnt (H.zones.getD 0 ⟨0, 0, [], []⟩).free p + cnt (H.zones.getD 1 ⟨0, 0, [], []⟩).free p + hit a o p ≤ 1 := fun p => by
    have := hc p
    rwa [zcnt_two hz.n] at this
  have e := zs_two hz.n
  obtain ⟨zs, mins, cpus, ls, live⟩ := H
  dsimp only at e hc'
  obtain ⟨z0, hz0⟩ : ∃ z, zs.getD 0 ⟨0, 0, [], []⟩ = z := ⟨_, rfl⟩
  obtain ⟨z1, hz1⟩ : ∃ z, zs.getD 1 ⟨0, 0, [], []⟩ = z := ⟨_, rfl⟩
  rw [hz0, hz1] at e hc'
  subst e
  clear hz0 hz1 hc
  have m0 : ZMay z0 := hz.m0
  have m1 : ZMay z1 := hz.m1
  have f0 : z0.f = 0 := hz.f0
  have f1 : z1.f = z0.t := hz.f1
  have t1 : z1.t = 256 := hz.t1
  by_cases ha : a < z0.t
  · have ei : zIdx ⟨[z0, z1], mins, cpus, ls, live⟩ a = 0 := if_pos ha
    have hno : ¬ ovlP z0.free a o := no_ovl fun p => by have := hc' p; omega
    have hin : blkIn z0.f z0.t a o := ⟨ho, by omega, by omega, hm⟩
    have eb : backH ⟨[z0, z1], mins, cpus, ls, live⟩ a o = ⟨[backZ z0 a o, z1], mins, cpus, ls, live⟩ := by unfold backH; rw [ei]; rfl
    have hcb := cnt_back (free_iff.1 m0.free).2 ho.1 hm
    refine ⟨⟨rfl, by rw [ei]; exact m0, by rw [ei]; exact hin, by rw [ei]; exact hno⟩, ?_⟩
    rw [eb]
    refine ⟨⟨rfl, backZ_may m0 hin hno, m1, f0, f1, t1⟩, fun p => ?_⟩
    rw [zcnt_two rfl, zcnt_two rfl]
    have := hcb p
    show cnt (backZ z0 a o).free p + cnt z1.free p = cnt z0.free p + cnt z1.free p + hit a o p
    omega
  · have ei : zIdx ⟨[z0, z1], mins, cpus, ls, live⟩ a = 1 := if_neg ha
    have hno : ¬ ovlP z1.free a o := no_ovl fun p => by have := hc' p; omega
    have hin : blkIn z1.f z1.t a o := ⟨ho, by omega, by omega, hm⟩
    have eb : backH ⟨[z0, z1], mins, cpus, ls, live⟩ a o = ⟨[z0, backZ z1 a o], mins, cpus, ls, live⟩ := by unfold backH; rw [ei]; rfl
    have hcb := cnt_back (free_iff.1 m1.free).2 ho.1 hm
    refine ⟨⟨rfl, by rw [ei]; exact m1, by rw [ei]; exact hin, by rw [ei]; exact hno⟩, ?_⟩
    rw [eb]
    refine ⟨⟨rfl, m0, backZ_may m1 hin hno, f0, f1, t1⟩, fun p => ?_⟩
    rw [zcnt_two rfl, zcnt_two rfl]
    have := hcb p
    show cnt z0.free p + cnt (backZ z1 a o).free p = cnt z0.free p + cnt z1.free p + hit a o p
    omega
/-- PAGES GO BACK one by one. -/
theorem backs_ok : ∀ (l : List Int) (H : Hp), ZsOk H → (∀ p ∈ l, 0 ≤ p ∧ p < 256) → (∀ p, zcnt H p + cnt (l.map pgB) p ≤ 1) →
    CanBacks H l ∧ ZsOk (backs H l) ∧ ∀ p, zcnt (backs H l) p = zcnt H p + cnt (l.map pgB) p
  | [], H, hz, _, _ => ⟨trivial, hz, fun p => by simp [backs, cnt]⟩
  | a :: l, H, hz, hr, hc => by
    have hc' : ∀ p, zcnt H p + (hit a 0 p + cnt (l.map pgB) p) ≤ 1 := hc
    have ha := hr a (by simp)
    obtain ⟨h1, h2, h3⟩ := backH_ok hz (a := a) (o := 0) ⟨by omega, by omega⟩ (by rw [pw_0]; omega) ha.1 ha.2 (fun p => by have := hc' p; omega)
    obtain ⟨k1, k2, k3⟩ := backs_ok l (backH H a 0) h2 (fun p hp => hr p (by simp [hp])) (fun p => by rw [h3]; have := hc' p; omega)
    refine ⟨⟨h1, k1⟩, k2, fun p => ?_⟩
    show zcnt (backs (backH H a 0) l) p = zcnt H p + (hit a 0 p + cnt (l.map pgB) p)
    rw [k3, h3]
    omega

theorem Kit.HMay.cntLe {H : Hp} (h : HMay H) (p : Int) : zcnt H p + (Kit.cnt ((H.lists.flatMap (·.pages)).map pgB) p + Kit.cnt H.live p) ≤ 1 := by
  have := apt_cnt _ _ h.apart (fun p => by simp [Kit.cnt]) p
  unfold placed at this
  rw [List.nil_append, cnt_append, cnt_append] at this
  rw [List.map_flatMap]
  exact this
theorem Kit.HMay.pageR {H : Hp} (h : HMay H) {p : Int} (hp : p ∈ H.lists.flatMap (·.pages)) : 0 ≤ p ∧ p < 256 := by
  obtain ⟨L, hL, hp⟩ := List.mem_flatMap.1 hp
  obtain ⟨i, hi, rfl⟩ := List.getElem_of_mem hL
  obtain ⟨j, hj, rfl⟩ := List.getElem_of_mem hp
  have hk := h.ls.ok i hi
  rw [List.getD_eq_getElem?_getD, List.getElem?_eq_getElem hi] at hk
  simp only [Option.getD_some] at hk
  have hq := hk.p j hj
  rw [List.getD_eq_getElem?_getD (l := (H.lists[i]).pages), List.getElem?_eq_getElem hj] at hq
  simp only [Option.getD_some] at hq
  have hz := hk.z
  have z0 := h.zs.m0.new
  have z1 := h.zs.m1.new
  unfold newOk at z0 z1
  have f0 := h.zs.f0
  have f1 := h.zs.f1
  have t1 := h.zs.t1
  rcases (show (H.lists[i]).z = 0 ∨ (H.lists[i]).z = 1 by omega) with e | e <;> rw [e] at hq
  · have hq' : (H.zones.getD 0 ⟨0, 0, [], []⟩).f ≤ (H.lists[i]).pages[j] ∧ (H.lists[i]).pages[j] < (H.zones.getD 0 ⟨0, 0, [], []⟩).t := hq
    omega
  · have hq' : (H.zones.getD 1 ⟨0, 0, [], []⟩).f ≤ (H.lists[i]).pages[j] ∧ (H.lists[i]).pages[j] < (H.zones.getD 1 ⟨0, 0, [], []⟩).t := hq
    omega
/-- The pages of all lists may go back. -/
theorem Kit.HMay.canBacks {H : Hp} (h : HMay H) : CanBacks H (H.lists.flatMap (·.pages)) ∧ ZsOk (backs H (H.lists.flatMap (·.pages))) ∧ ∀ p, zcnt (backs H (H.lists.flatMap (·.pages))) p = zcnt H p + Kit.cnt ((H.lists.flatMap (·.pages)).map pgB) p :=
  backs_ok _ H h.zs (fun _ hp => h.pageR hp) (fun p => by have := h.cntLe p; omega)

end Go.Proofs.Ytbjlbmofdnkmiaa

/-
  OWN TEXT. The type of a page's group.
-/
namespace Go.Proofs.Ytbjlbmofdnkmiaa.Kit

/-- The type of the group of a page. -/
def typeZ (z : Zn) (a : Int) : Int := z.types.getD ((a - z.f) / 8).toNat 0

end Go.Proofs.Ytbjlbmofdnkmiaa.Kit

/-
  OWN TEXT. Contract of the code: buddy.TypeAt.
-/
namespace Go.Proofs.Ytbjlbmofdnkmiaa
open Go Go.RowKit Go.Proofs.Ytbjlbmofdnkmiaa.Kit

set_option maxHeartbeats 1000000 in
theorem zTypeAt_ok (w : World) (fo : Option Addr) (fn fc : Nat) (to_ : Option Addr) (tn tc : Nat) (z : Zn) (a : Int) (h : ZnAt w fo fn to_ tn z) (hM : ZMay z) (ha : z.f ≤ a ∧ a ≤ z.t - 1) :
    Calls Try.prog 85 #[.agg #[.int .i64 z.f, .int .i64 z.t, .slice fo fn fc, .slice to_ tn tc], .int .i64 a] w fun e w' => e = .returned (.tuple #[.int .i64 (typeZ z a), .int .i64 0]) ∧ Below w.heap.size w w' := by
  have I0 := ckInv_first w fo fn fc to_ tn tc z h
  have c0 := I0.box.c0
  have c1 := I0.box.c1
  have c2 := I0.box.c2
  have c3 := I0.box.c3
  have e2 : Hid (inB a z.f (z.t - 1) = true) := inB_t ha
  obtain ⟨n1, n2, n3, n4, n5⟩ := hM.new
  have hlen := hM.len
  have htl := h.types.len
  have htr := h.types.reach
  obtain ⟨K, hK⟩ : ∃ K : Nat, (a - z.f) / 8 = (K : Int) := ⟨((a - z.f) / 8).toNat, by omega⟩
  have hKn : K < tn := by omega
  have hKi : (K : Int) < (tn : Int) := by omega
  have HT : Hid (typeZ z a = z.types.getD K 0) := by show _ = _; unfold typeZ; rw [hK]; rfl
  clear h
  go_enter Try.func85, Try.ntmps85
  go_wp2_with fail
  go_at_call 63
  refine (zCheck_ok _ fo fn fc to_ tn tc z I0.zn hM).mono ?_
  rintro e w1 ⟨rfl, hb1⟩
  have I1 := I0.step hb1
  clear I0 c0 c1 c2 c3 hb1 hM
  have c0 := I1.box.c0
  have c1 := I1.box.c1
  have c2 := I1.box.c2
  have c3 := I1.box.c3
  go_wp2_with fail
  go_at_call 101
  refine (isPage_any _ _ _ _ _ _ _ _ _ _).mono ?_
  rintro e w2 ⟨rfl, hb2⟩
  rw [e2.out]
  have I2 := I1.step hb2
  clear I1 c0 c1 c2 c3 hb2
  have c0 := I2.box.c0
  have c1 := I2.box.c1
  have c2 := I2.box.c2
  have c3 := I2.box.c3
  obtain ⟨b, o, x, rfl, cx, hX⟩ := I2.zn.types.at_.at K (by omega)
  have HT2 : Hid (typeZ z a = x) := HT.out.trans hX.out
  have m0 : ∀ wx, Below w2.heap.size w2 wx → wx.cell? ⟨w.heap.size, 0, none⟩ = some (.int .i64 z.f) := fun wx h => keep c0 h
  have m1 : ∀ wx, Below w2.heap.size w2 wx → wx.cell? ⟨w.heap.size, 1, none⟩ = some (.int .i64 z.t) := fun wx h => keep c1 h
  have m2 : ∀ wx, Below w2.heap.size w2 wx → wx.cell? ⟨w.heap.size, 2, none⟩ = some (.slice fo fn fc) := fun wx h => keep c2 h
  have m3 : ∀ wx, Below w2.heap.size w2 wx → wx.cell? ⟨w.heap.size, 3, none⟩ = some (.slice (some ⟨b, o, none⟩) tn tc) := fun wx h => keep c3 h
  have m4 : ∀ wx, Below w2.heap.size w2 wx → wx.cell? ⟨b, o + K, none⟩ = some (.int .i64 x) := fun wx h => keep cx h
  have HG : Hid (∀ W, Below w2.heap.size w2 W → Calls Try.prog 95 #[.agg #[.int .i64 z.f, .int .i64 z.t, .slice fo fn fc, .slice (some ⟨b, o, none⟩) tn tc], .int .i64 a] W fun e w' => e = .returned (.int .i64 K) ∧ Below w2.heap.size w2 w') := fun W hS => by
    rw [← hK]
    refine (group_any W z.f z.t fo _ fn fc tn tc a n1 ha.1 (by omega)).mono ?_
    rintro e w' ⟨rfl, hb⟩
    exact ⟨rfl, hS.trans (hb.mono hS.size)⟩
  have S0 : Below w2.heap.size w2 w2 := Below.refl _ _
  have hB2 := I2.b
  clear HT hX hK I2 c0 c1 c2 c3 cx
  go_wp2_with fail
  go_region_held3 (fun wx => Below w2.heap.size w2 wx) (first | assumption | exact Below.drew (by assumption))
    (first
      | (go_at_call 95; refine (HG.out _ ?_).mono ?_; assumption; rintro e w3 ⟨rfl, hS3⟩))
  all_goals
    have hbb := hB2.trans (hS3.mono hB2.size)
    clear HG m0 m1 m2 m3 m4 S0
    go_wp2
    go_ret2
    exact ⟨by rw [HT2.out]; rfl, hbb⟩

set_option maxHeartbeats 1000000 in
theorem zTypeAt_range (w : World) (fo : Option Addr) (fn fc : Nat) (to_ : Option Addr) (tn tc : Nat) (z : Zn) (a : Int) (h : ZnAt w fo fn to_ tn z) (hM : ZMay z) (ha : ¬ (z.f ≤ a ∧ a ≤ z.t - 1)) :
    Calls Try.prog 85 #[.agg #[.int .i64 z.f, .int .i64 z.t, .slice fo fn fc, .slice to_ tn tc], .int .i64 a] w fun e w' => e = .returned (.tuple #[.int .i64 0, .int .i64 1]) ∧ Below w.heap.size w w' := by
  have I0 := ckInv_first w fo fn fc to_ tn tc z h
  have c0 := I0.box.c0
  have c1 := I0.box.c1
  have c2 := I0.box.c2
  have c3 := I0.box.c3
  have e2 : Hid (inB a z.f (z.t - 1) = false) := inB_f ha
  clear h ha
  go_enter Try.func85, Try.ntmps85
  go_wp2_with fail
  go_at_call 63
  refine (zCheck_ok _ fo fn fc to_ tn tc z I0.zn hM).mono ?_
  rintro e w1 ⟨rfl, hb1⟩
  have I1 := I0.step hb1
  clear I0 c0 c1 c2 c3 hb1 hM
  have c0 := I1.box.c0
  have c1 := I1.box.c1
  have c2 := I1.box.c2
  have c3 := I1.box.c3
  go_wp2_with fail
  go_at_call 101
  refine (isPage_any _ _ _ _ _ _ _ _ _ _).mono ?_
  rintro e w2 ⟨rfl, hb2⟩
  rw [e2.out]
  have hbb := (I1.step hb2).b
  clear I1 c0 c1 c2 c3 hb2
  go_wp2
  go_ret2
  exact ⟨rfl, hbb⟩

set_option maxHeartbeats 1000000 in
theorem zTypeAt_no (w : World) (fo : Option Addr) (fn fc : Nat) (to_ : Option Addr) (tn tc : Nat) (z : Zn) (a : Int) (h : ZnAt w fo fn to_ tn z) (hf : ZFits z) (hM : ¬ ZMay z) :
    Calls Try.prog 85 #[.agg #[.int .i64 z.f, .int .i64 z.t, .slice fo fn fc, .slice to_ tn tc], .int .i64 a] w fun e w' => e = .returned (.tuple #[.int .i64 0, .int .i64 8]) ∧ Below w.heap.size w w' := by
  have I0 := ckInv_first w fo fn fc to_ tn tc z h
  have c0 := I0.box.c0
  have c1 := I0.box.c1
  have c2 := I0.box.c2
  have c3 := I0.box.c3
  clear h
  go_enter Try.func85, Try.ntmps85
  go_wp2_with fail
  go_at_call 63
  refine (zCheck_no _ fo fn fc to_ tn tc z I0.zn hf hM).mono ?_
  rintro e w1 ⟨rfl, hb1⟩
  have hbb := (I0.step hb1).b
  clear I0 c0 c1 c2 c3 hb1 hM hf
  go_wp2
  go_ret2
  exact ⟨rfl, hbb⟩

end Go.Proofs.Ytbjlbmofdnkmiaa

/-
  OWN TEXT. A page is kept on a list: plain; and what is done in memory.
-/
namespace Go.Proofs.Ytbjlbmofdnkmiaa
open Go Go.RowKit Go.Proofs.Ytbjlbmofdnkmiaa.Kit

/-- The first numbers of a slice. -/
theorem y_sliceHi {C : World → Prop} {L : List (Nat × Value)} {o : Oper} {x : Operand} {g n cap H : Nat} (ho : o.op = .slice 24 x none (some (.const (.int .i64 (H : Nat)))) none) (hx : ev L x = some (.slice (some ⟨g, 0, none⟩) n cap)) (hH : H ≤ cap) :
    YC Try.prog C L o (.slice (some ⟨g, 0, none⟩) H cap) := by
  intro ρ hρ wx _
  have h1 := hρ (.const (.int .i64 (H : Nat))) _ rfl
  have e1 : (Go.sizeOf 3).run Try.prog wx = .ok 1 wx := Try.sizeOf3 wx
  have e : (Instr.sliceAt 24 (.slice (some ⟨g, 0, none⟩) n cap) none (some (.int .i64 (H : Nat))) none).run Try.prog wx = .ok (.slice (some ⟨g, 0, none⟩) H cap) wx := by
    simp [Instr.sliceAt, Instr.slice, Instr.sliceBounds, Instr.sliceBound, run_under Try.underlying24, e1, go_sem, asIntOf, hH]
  simp [execOp, ho, hρ _ _ hx, h1, e, go_sem]

/-- 'append(l, p)' where l has no room: new memory. -/
theorem app1_run (w : World) (ty : TypeId) (po : Option Addr) (pn : Nat) (ps : List Int) (p : Int) (gb : Nat) (hN : Nums w po pn ps) (hn : pn ≤ 300) (hb : w.heap[gb]? = some (.cells #[.int .i64 p] 3 (0, 0))) (hnil : po = none → pn = 0) :
    ∃ g' cap' W, (Builtin.append_ #[24, 24] ty #[.slice po pn pn, .slice (some ⟨gb, 0, none⟩) 1 1]).run Try.prog w = .ok (.slice (some ⟨g', 0, none⟩) (pn + 1) cap') W ∧
      W.ownsRow w.heap.size 3 1 (.slice (some ⟨g', 0, none⟩) (pn + 1) cap') (pn + 1) (vals (ps ++ [p])) ∧ Below w.heap.size w W ∧ w.heap.size ≤ g' := by
  obtain ⟨i1, hj, hy0, hy1, hy2⟩ := info_parts info_int
  have hlen := hN.len
  have hnews : ∀ j v, (vals [p])[j]? = some v → w.cell? ((⟨gb, 0, none⟩ : Addr).add j) = some v := by
    intro j v hjv
    rw [add_at, Nat.zero_add]
    simp only [World.cell?, hb]
    change ([Value.int .i64 p] : List Value)[j]? = some v at hjv
    simpa using hjv
  cases po with
  | none =>
    obtain rfl := hnil rfl
    have hl : ps = [] := List.eq_nil_of_length_eq_zero hlen
    subst hl
    obtain ⟨v', w1, hrun, hown, hgrow, _⟩ := run_append_own (P := Try.prog) w w.heap.size 24 ty 3 i1 (.int .i64 0) 1 8 Try.underlying24 hj hy0 hy1 hy2 rfl (by decide) (.slice none 0 0) 0 [] (World.ownsRow_nil _ _ _ _) ⟨gb, 0, none⟩ 1 1 (vals [p]) rfl hnews (vals_oneCell _) (by unfold maxLen; omega) (by omega) (Nat.le_refl _)
    rw [List.nil_append, Nat.zero_add] at hown
    have hb' : Below w.heap.size w w1 := (Below.refl _ _).grown hgrow (Nat.le_refl _) (by simp [Value.ownBlock])
    rcases hown.2 with ⟨e1, e2⟩ | ⟨g, cap', cur, e1, hB, _⟩
    · cases e2
    · subst e1
      exact ⟨g, cap', w1, hrun, hown, hb', hB⟩
  | some a =>
    have hold : ∀ j v, (vals ps)[j]? = some v → w.cell? (a.add j) = some v := by
      by_cases h0 : 0 < ps.length
      · obtain ⟨a', he, hs⟩ := src_of hN.at_ h0
        cases he
        exact hs
      · intro j v hj
        have : vals ps = [] := List.eq_nil_of_length_eq_zero (by rw [length_vals]; omega)
        rw [this] at hj
        simp at hj
    obtain ⟨cap', W, cur, hrun, R, ht, hc, hbW⟩ := grow_some (P := Try.prog) w 24 ty 3 i1 (.int .i64 0) 1 Try.underlying24 hj hy0 hy1 rfl a pn pn (vals ps) (by rw [length_vals]; omega) hold ⟨gb, 0, none⟩ 1 1 (vals [p]) rfl hnews (by omega) (by unfold maxLen; omega) (by rw [hy2]; omega)
    exact ⟨w.heap.size, cap', W, hrun, R.owns (Nat.le_refl _) hc (by rw [vals_append]; exact ht), hbW, Nat.le_refl _⟩

/-- The pages of a list: plain. -/
def lsPages (l : List Ls) (x : Ls) : List Int := ((l.find? fun a => decide (a.c = x.c ∧ a.z = x.z ∧ a.t = x.t)).map (·.pages)).getD []
theorem lsPages_at {l : List Ls} (hr : RiseP l) {x : Ls} {i : Nat} {b : Bool} (h : AtL l x i b) : lsPages l x = if b = true then (l.getD i .zero).pages else [] := by
  have hno : ∀ a ∈ l.take i, ¬ (a.c = x.c ∧ a.z = x.z ∧ a.t = x.t) := fun a ha g => by
    obtain ⟨j, hj, _, rfl⟩ := getD_take_mem ha
    have := (ahead_same g).1.1 (h.2.1 j hj)
    unfold aheadL at this
    omega
  have e1 : (l.take i).find? (fun a => decide (a.c = x.c ∧ a.z = x.z ∧ a.t = x.t)) = none := by
    rw [List.find?_eq_none]
    intro a ha
    simpa using hno a ha
  unfold lsPages
  have e0 : l.find? (fun a => decide (a.c = x.c ∧ a.z = x.z ∧ a.t = x.t)) = (l.drop i).find? (fun a => decide (a.c = x.c ∧ a.z = x.z ∧ a.t = x.t)) := by
    conv => lhs; rw [← List.take_append_drop i l]
    rw [List.find?_append, e1, Option.none_or]
  rw [e0]
  cases b with
  | true =>
    obtain ⟨g1, g2⟩ := h.2.2.2.1 rfl
    have e2 : l.drop i = l.getD i .zero :: l.drop (i + 1) := by
      rw [List.getD_eq_getElem?_getD, List.getElem?_eq_getElem g1]
      exact (List.getElem_cons_drop g1).symm
    rw [e2, List.find?_cons_of_pos (by simpa using g2)]
    rfl
  | false =>
    have e2 : (l.drop i).find? (fun a => decide (a.c = x.c ∧ a.z = x.z ∧ a.t = x.t)) = none := by
      rw [List.find?_eq_none]
      intro a ha
      obtain ⟨j, hj, hl, rfl⟩ := getD_drop_mem ha
      intro g
      have g' := of_decide_eq_true g
      by_cases e : j = i
      · subst e
        exact absurd (h.2.2.2.2 ⟨hl, g'⟩) (by simp)
      · exact h.2.2.1 i (Nat.le_refl _) (by omega) ((ahead_same g').2.1 (rise_lt hr (by omega) hl))
    rw [e2]
    rfl

/-- A single page is kept: plain. -/
def keepH (H : Hp) (cpu p : Int) : Hp :=
  if 8 < (lsPages H.lists ⟨cpu, (zIdx H p : Nat), typeZ (H.zones.getD (zIdx H p) ⟨0, 0, [], []⟩) p, []⟩ ++ [p]).length then
    { backs H ((lsPages H.lists ⟨cpu, (zIdx H p : Nat), typeZ (H.zones.getD (zIdx H p) ⟨0, 0, [], []⟩) p, []⟩ ++ [p]).take 4) with
      lists := setLs H.lists ⟨cpu, (zIdx H p : Nat), typeZ (H.zones.getD (zIdx H p) ⟨0, 0, [], []⟩) p, (lsPages H.lists ⟨cpu, (zIdx H p : Nat), typeZ (H.zones.getD (zIdx H p) ⟨0, 0, [], []⟩) p, []⟩ ++ [p]).drop 4⟩ }
  else { H with lists := setLs H.lists ⟨cpu, (zIdx H p : Nat), typeZ (H.zones.getD (zIdx H p) ⟨0, 0, [], []⟩) p, lsPages H.lists ⟨cpu, (zIdx H p : Nat), typeZ (H.zones.getD (zIdx H p) ⟨0, 0, [], []⟩) p, []⟩ ++ [p]⟩ }

/-- Zones and lists may be, and no page is twice in them. -/
structure HMid (H : Hp) : Prop where
  zs : ZsOk H
  ls : LssOk H
  cpus : H.cpus ≤ 4
  cnt : ∀ p, zcnt H p + Kit.cnt ((H.lists.flatMap (·.pages)).map pgB) p ≤ 1
theorem HMid.of {H : Hp} (h : HMay H) : HMid H := ⟨h.zs, h.ls, h.cpus.2, fun p => by have := h.cntLe p; omega⟩
theorem LssOk.page {H : Hp} (hz : ZsOk H) (hl : LssOk H) {p : Int} (hp : p ∈ H.lists.flatMap (·.pages)) : 0 ≤ p ∧ p < 256 := by
  obtain ⟨L, hL, hp⟩ := List.mem_flatMap.1 hp
  obtain ⟨i, hi, rfl⟩ := List.getElem_of_mem hL
  obtain ⟨j, hj, rfl⟩ := List.getElem_of_mem hp
  have hk := hl.ok i hi
  rw [List.getD_eq_getElem?_getD, List.getElem?_eq_getElem hi] at hk
  simp only [Option.getD_some] at hk
  have hq := hk.p j hj
  rw [List.getD_eq_getElem?_getD (l := (H.lists[i]).pages), List.getElem?_eq_getElem hj] at hq
  simp only [Option.getD_some] at hq
  have hz' := hk.z
  have z0 := hz.m0.new
  have z1 := hz.m1.new
  unfold newOk at z0 z1
  have f0 := hz.f0
  have f1 := hz.f1
  have t1 := hz.t1
  rcases (show (H.lists[i]).z = 0 ∨ (H.lists[i]).z = 1 by omega) with e | e <;> rw [e] at hq
  · have hq' : (H.zones.getD 0 ⟨0, 0, [], []⟩).f ≤ (H.lists[i]).pages[j] ∧ (H.lists[i]).pages[j] < (H.zones.getD 0 ⟨0, 0, [], []⟩).t := hq
    omega
  · have hq' : (H.zones.getD 1 ⟨0, 0, [], []⟩).f ≤ (H.lists[i]).pages[j] ∧ (H.lists[i]).pages[j] < (H.zones.getD 1 ⟨0, 0, [], []⟩).t := hq
    omega
theorem cnt_flat {ls : List Ls} {L : Ls} (h : L ∈ ls) (p : Int) : Kit.cnt (L.pages.map pgB) p ≤ Kit.cnt ((ls.flatMap (·.pages)).map pgB) p := by
  induction ls with
  | nil => simp at h
  | cons a ls ih =>
    rw [List.flatMap_cons, List.map_append, cnt_append]
    rcases List.mem_cons.1 h with rfl | h
    · omega
    · have := ih h; omega
/-- The first pages of a list may go back. -/
theorem HMid.four {H : Hp} (h : HMid H) {L : Ls} (hL : L ∈ H.lists) (n : Nat) : CanBacks H (L.pages.take n) ∧ ZsOk (backs H (L.pages.take n)) ∧ ∀ p, zcnt (backs H (L.pages.take n)) p = zcnt H p + Kit.cnt ((L.pages.take n).map pgB) p := by
  refine backs_ok _ H h.zs (fun p hp => LssOk.page h.zs h.ls (List.mem_flatMap.2 ⟨L, hL, List.mem_of_mem_take hp⟩)) (fun p => ?_)
  have h1 := h.cnt p
  have h2 := cnt_flat hL p
  have h3 : Kit.cnt (L.pages.map pgB) p = Kit.cnt ((L.pages.take n).map pgB) p + Kit.cnt ((L.pages.drop n).map pgB) p := by
    conv => lhs; rw [← List.take_append_drop n L.pages]
    rw [List.map_append, cnt_append]
  omega
/-- A page is in its zone. -/
theorem zone_in {H : Hp} (h : ZsOk H) {p : Int} (h0 : 0 ≤ p) (h1 : p < 256) : ZMay (H.zones.getD (zIdx H p) ⟨0, 0, [], []⟩) ∧ (H.zones.getD (zIdx H p) ⟨0, 0, [], []⟩).f ≤ p ∧ p ≤ (H.zones.getD (zIdx H p) ⟨0, 0, [], []⟩).t - 1 := by
  have f0 := h.f0
  have f1 := h.f1
  have t1 := h.t1
  unfold zIdx
  split
  · exact ⟨h.m0, by omega, by omega⟩
  · exact ⟨h.m1, by omega, by omega⟩
/-- There are few lists. -/
theorem lists_few {H : Hp} (h : LssOk H) (hc : H.cpus ≤ 4) : H.lists.length ≤ 24 := by
  have key : ∀ i, i < H.lists.length → (i : Int) ≤ (H.lists.getD i .zero).c * 6 + (H.lists.getD i .zero).z * 3 + (H.lists.getD i .zero).t := by
    intro i
    induction i with
    | zero =>
      intro hi
      have k := h.ok 0 hi
      have k1 := k.c
      have k2 := k.z
      have k3 := k.t
      unfold typeOk at k3
      omega
    | succ i ih =>
      intro hi
      have g := ih (by omega)
      have k := h.ok i (by omega)
      have m := h.ok (i + 1) hi
      have o := h.ord (i + 1) (by omega) hi
      rw [show i + 1 - 1 = i by omega] at o
      unfold aheadL at o
      have k2 := k.z
      have k3 := k.t
      have m2 := m.z
      have m3 := m.t
      unfold typeOk at k3 m3
      omega
  by_cases e : H.lists.length ≤ 24
  · exact e
  · have k := key 24 (by omega)
    have m := h.ok 24 (by omega)
    have m1 := m.c
    have m2 := m.z
    have m3 := m.t
    unfold typeOk at m3
    omega

/-- The blocks of P are written, and new ones. -/
structure Ex (P : Nat → Prop) (w w' : World) : Prop where
  os : w'.os = w.os
  tape : w'.tape = w.tape
  output : w'.output = w.output
  size : w.heap.size ≤ w'.heap.size
  block : ∀ k, k < w.heap.size → ¬ P k → w'.heap[k]? = w.heap[k]?
theorem Ex.trans {P : Nat → Prop} {w w' w'' : World} (h : Ex P w w') (k : Ex P w' w'') : Ex P w w'' :=
  ⟨k.os.trans h.os, k.tape.trans h.tape, k.output.trans h.output, Nat.le_trans h.size k.size, fun j hj hp => (k.block j (Nat.lt_of_lt_of_le hj h.size) hp).trans (h.block j hj hp)⟩
theorem Ex.of_below {P : Nat → Prop} {w w' : World} (h : Below w.heap.size w w') : Ex P w w' := ⟨h.os, h.tape, h.output, h.size, fun k hk _ => h.block k hk⟩
theorem Ex.of_but {P : Nat → Prop} {b : Nat} {w w' : World} (h : But b w w') (hp : P b) : Ex P w w' := ⟨h.os, h.tape, h.output, h.size, fun k hk hn => h.block k hk (fun e => hn (e ▸ hp))⟩
theorem Ex.of_bu2 {P : Nat → Prop} {g z : Nat} {w w' : World} (h : Bu2 g z w w') (hg : P g) (hz : P z) : Ex P w w' := ⟨h.os, h.tape, h.output, h.size, fun k hk hn => h.block k hk (fun e => hn (e ▸ hg)) (fun e => hn (e ▸ hz))⟩
theorem Ex.new {P : Nat → Prop} {b : Nat} {w w' w'' : World} (h : Ex P w w') (hb : But b w' w'') (hn : w.heap.size ≤ b) : Ex P w w'' :=
  ⟨hb.os.trans h.os, hb.tape.trans h.tape, hb.output.trans h.output, Nat.le_trans h.size hb.size, fun k hk h1 => (hb.block k (Nat.lt_of_lt_of_le hk h.size) (by omega)).trans (h.block k hk h1)⟩
theorem Ex.row {P : Nat → Prop} {w w' : World} {b : Nat} {x : Obj} (h : Ex P w w') (hr : w.heap[b]? = some x) (hp : ¬ P b) : w'.heap[b]? = some x := by
  rw [h.block b (Array.getElem?_eq_some_iff.1 hr).1 hp]; exact hr

end Go.Proofs.Ytbjlbmofdnkmiaa
