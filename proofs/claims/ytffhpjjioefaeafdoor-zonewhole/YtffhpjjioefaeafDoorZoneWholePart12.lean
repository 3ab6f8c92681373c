/-
  OWN TEXTS, bundled: ZUnq, ZTyp, ZFulP, ZStZ, WZoneWhole.
-/
import Derived.Test.YtffhpjjioefaeafDoorPart3
import Derived.Test.YtffhpjjioefaeafDoorPart2
import Derived.KernelRfl
import Derived.Test.YtffhpjjioefaeafDoorPart6
import Derived.Test.YtffhpjjioefaeafDoorPart11

/-
  OWN TEXT. Blocks that are put together as often as they can be are told by their pages: plain mathematics.
-/
namespace Go.Proofs.YtffhpjjioefaeafDoor.Kit

theorem hit_one {a o p : Int} : 0 < hit a o p ↔ a ≤ p ∧ p < a + pw o := by
  unfold hit
  split <;> simp_all
theorem cnt_pos {l : List Bk} {p : Int} : 0 < cnt l p ↔ ∃ b ∈ l, b.a ≤ p ∧ p < b.a + pw b.o := by
  induction l with
  | nil => simp [cnt]
  | cons x l ih =>
    constructor
    · intro h
      simp only [cnt] at h
      by_cases hx : 0 < hit x.a x.o p
      · exact ⟨x, by simp, hit_one.1 hx⟩
      · obtain ⟨b, hb, g⟩ := ih.1 (by omega)
        exact ⟨b, by simp [hb], g⟩
    · rintro ⟨b, hb, g⟩
      simp only [cnt]
      rcases List.mem_cons.1 hb with rfl | hb
      · have := hit_one.2 g; omega
      · have := ih.2 ⟨b, hb, g⟩; omega

/-- Two blocks of a list that rises. -/
theorem ahead_two {l : List Bk} (h : l.Pairwise Ahead) {p q : Bk} (hp : p ∈ l) (hq : q ∈ l) (hlt : p.a < q.a) : Ahead p q := by
  induction l with
  | nil => simp at hp
  | cons x l ih =>
    obtain ⟨h1, h2⟩ := List.pairwise_cons.1 h
    rcases List.mem_cons.1 hp with rfl | hp'
    · rcases List.mem_cons.1 hq with rfl | hq'
      · omega
      · exact h1 q hq'
    · rcases List.mem_cons.1 hq with rfl | hq'
      · have := (h1 p hp').1
        have := pw_pos q.o
        omega
      · exact ih h2 hp' hq'

/-- An aligned block that lies in a greater aligned one. -/
theorem up_in {a b k o : Int} (hk : ordOk k) (ho : ordOk o) (hko : k ≤ o) (ha : a % pw k = 0) (hb : b % pw o = 0) (h1 : b ≤ a) (h2 : a < b + pw o) : a + pw k ≤ b + pw o := by
  rcases ord_cases ho with ⟨rfl, e⟩ | ⟨rfl, e⟩ | ⟨rfl, e⟩ | ⟨rfl, e⟩ | ⟨rfl, e⟩ <;> rw [e] at hb h2 ⊢ <;>
    rcases ord_cases hk with ⟨rfl, f⟩ | ⟨rfl, f⟩ | ⟨rfl, f⟩ | ⟨rfl, f⟩ | ⟨rfl, f⟩ <;> rw [f] at ha ⊢ <;> omega

/-- Pages of an aligned block that are all in blocks lie in one. -/
theorem whole_in {f t : Int} {l : List Bk} (hl : AllIn f t l) (hA : l.Pairwise Ahead) : ∀ (k : Nat) (c : Int), k ≤ 4 → c % pw k = 0 → (∀ p, c ≤ p → p < c + pw k → 0 < cnt l p) → ∃ b ∈ l, b.a ≤ c ∧ c + pw k ≤ b.a + pw b.o := by
  intro k
  induction k with
  | zero =>
    intro c _ _ h
    have e : pw ((0 : Nat) : Int) = 1 := pw_0
    rw [e] at h ⊢
    obtain ⟨b, hb, g1, g2⟩ := cnt_pos.1 (h c (by omega) (by omega))
    exact ⟨b, hb, g1, by omega⟩
  | succ k ih =>
    intro c hk hc h
    have e : pw ((k + 1 : Nat) : Int) = 2 * pw (k : Int) := by
      rw [show ((k + 1 : Nat) : Int) = (k : Int) + 1 by omega]
      exact pw_succ _ (by omega)
    have hp := pw_pos (k : Int)
    have ok : ordOk (k : Int) := ⟨by omega, by omega⟩
    have ok1 : ordOk ((k + 1 : Nat) : Int) := ⟨by omega, by omega⟩
    have c1 : c % pw (k : Int) = 0 := mod_down ok1 (by omega) (by omega) hc
    have c2 : (c + pw (k : Int)) % pw (k : Int) = 0 := by rw [Int.add_emod_right]; exact c1
    rw [e] at h
    obtain ⟨b1, m1, g1, g2⟩ := ih c (by omega) c1 (fun p q1 q2 => h p q1 (by omega))
    obtain ⟨b2, m2, g3, g4⟩ := ih (c + pw (k : Int)) (by omega) c2 (fun p q1 q2 => h p (by omega) (by omega))
    obtain ⟨⟨o1, _, _, al1⟩, _⟩ := hl b1 m1
    obtain ⟨⟨o2, _, _, al2⟩, _⟩ := hl b2 m2
    by_cases s1 : ((k + 1 : Nat) : Int) ≤ b1.o
    · exact ⟨b1, m1, g1, up_in ok1 o1 s1 hc al1 g1 (by omega)⟩
    · by_cases s2 : ((k + 1 : Nat) : Int) ≤ b2.o
      · refine ⟨b2, m2, ?_, ?_⟩
        · have := pw_pos b2.o
          have hd : c % pw ((k + 1 : Nat) : Int) = 0 := hc
          -- the greater block that holds the upper half holds the lower one
          rcases ord_cases o2 with ⟨q, e2⟩ | ⟨q, e2⟩ | ⟨q, e2⟩ | ⟨q, e2⟩ | ⟨q, e2⟩ <;> rw [e2] at al2 g4 <;>
            rcases ord_cases ok1 with ⟨r, e3⟩ | ⟨r, e3⟩ | ⟨r, e3⟩ | ⟨r, e3⟩ | ⟨r, e3⟩ <;> rw [e3] at hd e <;> omega
        · omega
      · exfalso
        have e1 : pw b1.o ≤ pw (k : Int) := pw_mono (by omega)
        have e2 : pw b2.o ≤ pw (k : Int) := pw_mono (by omega)
        have q1 : b1.a = c := by omega
        have q2 : b2.a = c + pw (k : Int) := by omega
        have z1 : b1.o = k := by
          rcases ord_cases o1 with ⟨q, w1⟩ | ⟨q, w1⟩ | ⟨q, w1⟩ | ⟨q, w1⟩ | ⟨q, w1⟩ <;> rcases ord_cases ok with ⟨r, w2⟩ | ⟨r, w2⟩ | ⟨r, w2⟩ | ⟨r, w2⟩ | ⟨r, w2⟩ <;> rw [w1, w2] at e1 <;> rw [w1, w2] at g2 <;> omega
        have z2 : b2.o = k := by
          rcases ord_cases o2 with ⟨q, w1⟩ | ⟨q, w1⟩ | ⟨q, w1⟩ | ⟨q, w1⟩ | ⟨q, w1⟩ <;> rcases ord_cases ok with ⟨r, w2⟩ | ⟨r, w2⟩ | ⟨r, w2⟩ | ⟨r, w2⟩ | ⟨r, w2⟩ <;> rw [w1, w2] at e2 <;> rw [w1, w2] at g4 <;> omega
        have hah := ahead_two hA m1 m2 (by omega)
        refine hah.2 ⟨by omega, by omega, ?_, ?_⟩
        · rw [z2, q1, q2]
        · rw [z2, q1, show (k : Int) + 1 = ((k + 1 : Nat) : Int) by omega]; exact hc

theorem same_of {l : List Bk} (hA : l.Pairwise Ahead) {p q : Bk} (hp : p ∈ l) (hq : q ∈ l) (h1 : q.a ≤ p.a) (h2 : p.a < q.a + pw q.o) : p = q := by
  by_cases e : p.a = q.a
  · induction l with
    | nil => simp at hp
    | cons x l ih =>
      obtain ⟨k1, k2⟩ := List.pairwise_cons.1 hA
      have px := pw_pos x.o
      rcases List.mem_cons.1 hp with rfl | hp'
      · rcases List.mem_cons.1 hq with rfl | hq'
        · rfl
        · have := (k1 q hq').1; omega
      · rcases List.mem_cons.1 hq with rfl | hq'
        · have := (k1 p hp').1; omega
        · exact ih k2 hp' hq'
  · have := (ahead_two hA hq hp (by omega)).1
    omega

/-- A block of the one is a block of the other. -/
theorem in_other {f t : Int} {l m : List Bk} (hl : AllIn f t l) (hlA : l.Pairwise Ahead) (hm : AllIn f t m) (hmA : m.Pairwise Ahead) (hc : ∀ p, cnt l p = cnt m p) {b : Bk} (hb : b ∈ l) : ∃ b' ∈ m, b'.a = b.a ∧ b'.o = b.o := by
  obtain ⟨⟨⟨o0, o4⟩, _, _, al⟩, _⟩ := hl b hb
  have e : ((b.o.toNat : Nat) : Int) = b.o := by omega
  obtain ⟨b', hb', g1, g2⟩ := whole_in hm hmA b.o.toNat b.a (by omega) (by rw [e]; exact al) (fun p q1 q2 => by
    rw [e] at q2
    rw [← hc]
    exact cnt_pos.2 ⟨b, hb, q1, q2⟩)
  rw [e] at g2
  obtain ⟨⟨⟨o0', o4'⟩, _, _, al'⟩, _⟩ := hm b' hb'
  have e' : ((b'.o.toNat : Nat) : Int) = b'.o := by omega
  obtain ⟨b2, hb2, g3, g4⟩ := whole_in hl hlA b'.o.toNat b'.a (by omega) (by rw [e']; exact al') (fun p q1 q2 => by
    rw [e'] at q2
    rw [hc]
    exact cnt_pos.2 ⟨b', hb', q1, q2⟩)
  rw [e'] at g4
  have hp := pw_pos b.o
  have hp' := pw_pos b'.o
  have hs : b = b2 := same_of hlA hb hb2 (by omega) (by omega)
  subst hs
  have ea : b'.a = b.a := by omega
  refine ⟨b', hb', ea, ?_⟩
  have ep : pw b'.o = pw b.o := by omega
  rcases ord_cases (o := b.o) ⟨o0, o4⟩ with ⟨q, w1⟩ | ⟨q, w1⟩ | ⟨q, w1⟩ | ⟨q, w1⟩ | ⟨q, w1⟩ <;> rcases ord_cases (o := b'.o) ⟨o0', o4'⟩ with ⟨r, w2⟩ | ⟨r, w2⟩ | ⟨r, w2⟩ | ⟨r, w2⟩ | ⟨r, w2⟩ <;> rw [w1, w2] at ep <;> omega

theorem rise_eq : ∀ (l m : List (Int × Int)), l.Pairwise (fun x y => x.1 < y.1) → m.Pairwise (fun x y => x.1 < y.1) → (∀ x, x ∈ l ↔ x ∈ m) → l = m := by
  intro l
  induction l with
  | nil =>
    intro m _ _ h
    cases m with
    | nil => rfl
    | cons y m => exact absurd ((h y).2 (by simp)) (by simp)
  | cons x l ih =>
    intro m hl hm h
    cases m with
    | nil => exact absurd ((h x).1 (by simp)) (by simp)
    | cons y m =>
      obtain ⟨a1, a2⟩ := List.pairwise_cons.1 hl
      obtain ⟨b1, b2⟩ := List.pairwise_cons.1 hm
      have hxy : x = y := by
        rcases List.mem_cons.1 ((h x).1 (by simp)) with e | e
        · exact e
        · rcases List.mem_cons.1 ((h y).2 (by simp)) with e' | e'
          · exact e'.symm
          · have := b1 x e; have := a1 y e'; omega
      subst hxy
      rw [ih m a2 b2 fun z => ?_]
      constructor
      · intro hz
        rcases List.mem_cons.1 ((h z).1 (by simp [hz])) with e | e
        · have := a1 z hz; rw [e] at this; omega
        · exact e
      · intro hz
        rcases List.mem_cons.1 ((h z).2 (by simp [hz])) with e | e
        · have := b1 z hz; rw [e] at this; omega
        · exact e

/-- The places and orders. -/
def ao (l : List Bk) : List (Int × Int) := l.map fun b => (b.a, b.o)

theorem free_unique {z y : Zn} (hz : ZMay z) (hy : ZMay y) (hf : z.f = y.f) (ht : z.t = y.t) (hc : ∀ p, cnt z.free p = cnt y.free p) : ao z.free = ao y.free := by
  obtain ⟨z1, z2⟩ := free_iff.1 hz.free
  obtain ⟨y1, y2⟩ := free_iff.1 hy.free
  rw [hf, ht] at z1
  have inc : ∀ l : List Bk, l.Pairwise Ahead → (ao l).Pairwise (fun x y => x.1 < y.1) := fun l h => by
    unfold ao
    rw [List.pairwise_map]
    exact h.imp fun {a b} hab => by have := hab.1; have := pw_pos a.o; show a.a < b.a; omega
  refine rise_eq _ _ (inc _ z2) (inc _ y2) fun x => ?_
  unfold ao
  rw [List.mem_map, List.mem_map]
  constructor
  · rintro ⟨b, hb, rfl⟩
    obtain ⟨b', hb', e1, e2⟩ := in_other z1 z2 y1 y2 hc hb
    exact ⟨b', hb', by rw [e1, e2]⟩
  · rintro ⟨b, hb, rfl⟩
    obtain ⟨b', hb', e1, e2⟩ := in_other y1 y2 z1 z2 (fun p => (hc p).symm) hb
    exact ⟨b', hb', by rw [e1, e2]⟩

end Go.Proofs.YtffhpjjioefaeafDoor.Kit

/-
  OWN TEXT. The type of a page's group.
-/
namespace Go.Proofs.YtffhpjjioefaeafDoor.Kit

/-- The type of the group of a page. -/
def typeZ (z : Zn) (a : Int) : Int := z.types.getD ((a - z.f) / 8).toNat 0

end Go.Proofs.YtffhpjjioefaeafDoor.Kit

/-
  OWN TEXT. When there is a block: plain mathematics. The zone at the beginning, and what is taken of it.
-/
namespace Go.Proofs.YtffhpjjioefaeafDoor.Kit

theorem fidx_has {g : Bk → Bool} {l : List Bk} {b : Bk} (hb : b ∈ l) (hg : g b = true) : 0 ≤ fidx g l := by
  induction l with
  | nil => simp at hb
  | cons x l ih =>
    show 0 ≤ (if g x = true then (0 : Int) else if fidx g l < 0 then -1 else fidx g l + 1)
    by_cases hx : g x = true
    · rw [if_pos hx]; omega
    · rw [if_neg hx]
      have hm : b ∈ l := by
        rcases List.mem_cons.1 hb with rfl | hm
        · exact absurd hg hx
        · exact hm
      have := ih hm
      rw [if_neg (by omega)]
      omega

theorem upI_has {l : List Bk} {t : Int} : ∀ (n : Nat) (o : Int) (k : Nat), k < n → 0 ≤ fidx (isT (o + k) t) l → 0 ≤ upI l t n o := by
  intro n
  induction n with
  | zero => intro o k hk; omega
  | succ n ih =>
    intro o k hk hf
    unfold upI
    split
    · assumption
    · rename_i hno
      cases k with
      | zero => exact absurd (by simpa using hf) hno
      | succ k => exact ih (o + 1) k (by omega) (by rw [show o + 1 + (k : Int) = o + ((k + 1 : Nat) : Int) by omega]; exact hf)

theorem dnI_has {l : List Bk} {u v o : Int} : ∀ (n : Nat) (k : Nat), k < n → (0 ≤ fidx (isT (o + k) u) l ∨ 0 ≤ fidx (isT (o + k) v) l) → 0 ≤ dnI l u v o n := by
  intro n
  induction n with
  | zero => intro k hk; omega
  | succ n ih =>
    intro k hk hf
    unfold dnI
    split
    · assumption
    · split
      · assumption
      · rename_i h1 h2
        by_cases hkn : k = n
        · subst hkn
          rcases hf with hf | hf
          · exact absurd hf h1
          · exact absurd hf h2
        · exact ih k (by omega) hf

theorem choose_iff {l : List Bk} {o t : Int} (hl : ∀ b ∈ l, ordOk b.o ∧ typeOk b.t) (ho : ordOk o) (ht : typeOk t) : 0 ≤ chooseI l o t ↔ ∃ b ∈ l, o ≤ b.o := by
  constructor
  · intro h
    obtain ⟨i, _, hi, hob⟩ := choose_in h
    exact ⟨_, getD_mem hi, hob⟩
  · rintro ⟨b, hb, hob⟩
    obtain ⟨⟨b0, b4⟩, ⟨c0, c2⟩⟩ := hl b hb
    have hk : (b.o - o).toNat < (5 - o).toNat := by have := ho.1; omega
    have e : o + ((b.o - o).toNat : Int) = b.o := by omega
    unfold chooseI
    split
    · assumption
    · rename_i hno
      refine dnI_has _ (b.o - o).toNat hk ?_
      rw [e]
      by_cases h1 : b.t = t
      · exact absurd (upI_has _ o (b.o - o).toNat hk (by rw [e]; exact fidx_has hb (decide_eq_true ⟨rfl, h1⟩))) hno
      · obtain ⟨t0, t2⟩ := ht
        by_cases h2 : b.t = other1 t
        · exact .inl (fidx_has hb (decide_eq_true ⟨rfl, h2⟩))
        · refine .inr (fidx_has hb (decide_eq_true ⟨rfl, ?_⟩))
          unfold other1 at h2
          unfold other2
          split at h2 <;> split <;> omega

theorem may_ok {z : Zn} (h : ZMay z) : ∀ b ∈ z.free, ordOk b.o ∧ typeOk b.t := fun b hb => by
  obtain ⟨h1, h2⟩ := (free_iff.1 h.free).1 b hb
  exact ⟨h1.1, h2⟩

/-- The zone at the beginning. -/
def zone0 : Zn := ⟨16, 112, [⟨18, 1, 1⟩, ⟨20, 2, 1⟩, ⟨24, 3, 1⟩, ⟨32, 4, 1⟩, ⟨48, 4, 1⟩, ⟨64, 4, 1⟩, ⟨80, 4, 1⟩, ⟨96, 3, 1⟩, ⟨104, 2, 1⟩], [1, 1, 1, 1, 1, 1, 1, 1, 1, 1, 1, 1]⟩
set_option maxRecDepth 100000 in
theorem first_zone : firstZ = some zone0 := by kernel_rfl
theorem ch1 : chooseI zone0.free 3 1 = ((2 : Nat) : Int) := by kernel_rfl
theorem ch0 : chooseI zone0.free 3 0 = ((3 : Nat) : Int) := by kernel_rfl
theorem ch2 : chooseI zone0.free 3 2 = ((3 : Nat) : Int) := by kernel_rfl
theorem ch00 : chooseI (takeZ zone0 3 0 3).free 0 0 = ((3 : Nat) : Int) := by kernel_rfl
theorem ch22 : chooseI (takeZ zone0 3 2 3).free 0 2 = ((3 : Nat) : Int) := by kernel_rfl
theorem at1 : (zone0.free.getD 2 .zero).a = 24 := by kernel_rfl
theorem at0 : (zone0.free.getD 3 .zero).a = 32 := by kernel_rfl
theorem at00 : ((takeZ zone0 3 0 3).free.getD 3 .zero).a = 40 := by kernel_rfl
theorem at22 : ((takeZ zone0 3 2 3).free.getD 3 .zero).a = 40 := by kernel_rfl
theorem ty1 : typeZ (takeZ zone0 3 1 2) 24 = 1 := by kernel_rfl
theorem ty0 : typeZ (takeZ zone0 3 0 3) 32 = 0 := by kernel_rfl
theorem ty2 : typeZ (takeZ zone0 3 2 3) 32 = 2 := by kernel_rfl
theorem ty00 : typeZ (takeZ (takeZ zone0 3 0 3) 0 0 3) 40 = 0 := by kernel_rfl
theorem ty22 : typeZ (takeZ (takeZ zone0 3 2 3) 0 2 3) 40 = 2 := by kernel_rfl

end Go.Proofs.YtffhpjjioefaeafDoor.Kit

/-
  OWN TEXT. A zone's variable gets another zone.
-/
namespace Go.Proofs.YtffhpjjioefaeafDoor
open Go Go.RowKit Go.Proofs.YtffhpjjioefaeafDoor.Kit

/-- A zone's variable gets another zone, that was made since. -/
theorem store_zone {W V : World} {zb : Nat} {x y u v : Value} {z : Zn} {fo to_ : Option Addr} {fn fc tn tc : Nat} (hB : ZBox W zb x y u v) (hb : Below W.heap.size W V) (hz : ZnAt V fo fn to_ tn z) (f1 : Fresh W.heap.size fo) (f2 : Fresh W.heap.size to_) :
    Res4 V zb ∧ ZBox ((((V.setCell ⟨zb, 0, none⟩ (.int .i64 z.f)).setCell ⟨zb, 1, none⟩ (.int .i64 z.t)).setCell ⟨zb, 2, none⟩ (.slice fo fn fc)).setCell ⟨zb, 3, none⟩ (.slice to_ tn tc)) zb (.int .i64 z.f) (.int .i64 z.t) (.slice fo fn fc) (.slice to_ tn tc) ∧
      ZnAt ((((V.setCell ⟨zb, 0, none⟩ (.int .i64 z.f)).setCell ⟨zb, 1, none⟩ (.int .i64 z.t)).setCell ⟨zb, 2, none⟩ (.slice fo fn fc)).setCell ⟨zb, 3, none⟩ (.slice to_ tn tc)) fo fn to_ tn z ∧
      But zb V ((((V.setCell ⟨zb, 0, none⟩ (.int .i64 z.f)).setCell ⟨zb, 1, none⟩ (.int .i64 z.t)).setCell ⟨zb, 2, none⟩ (.slice fo fn fc)).setCell ⟨zb, 3, none⟩ (.slice to_ tn tc)) := by
  have hB' := hB.below hb
  have hbt := but4 V zb (.int .i64 z.f) (.int .i64 z.t) (.slice fo fn fc) (.slice to_ tn tc)
  exact ⟨hB'.res, hB'.set4 _ _ _ _, ZnAt.apt hz hbt (.fresh f1 hB.lt) (.fresh f2 hB.lt), hbt⟩

end Go.Proofs.YtffhpjjioefaeafDoor

/-
  OWN TEXT. The walk of the law ZoneWhole: it returns true and writes nothing that was there.
-/
namespace Go.Proofs.YtffhpjjioefaeafDoor
open Go Go.RowKit Go.Proofs.YtffhpjjioefaeafDoor.Kit

theorem ao_at {l m : List Bk} (h : Kit.ao l = Kit.ao m) {k : Nat} (hk : k < l.length) (hk' : k < m.length) : (l.getD k .zero).a = (m.getD k .zero).a ∧ (l.getD k .zero).o = (m.getD k .zero).o := by
  have e := congrArg (·[k]?) h
  simp only [Kit.ao, List.getElem?_map, List.getElem?_eq_getElem hk, List.getElem?_eq_getElem hk', Option.map_some, Option.some.injEq, Prod.mk.injEq] at e
  simpa [List.getD_eq_getElem?_getD, List.getElem?_eq_getElem hk, List.getElem?_eq_getElem hk'] using e
theorem ao_len {l m : List Bk} (h : Kit.ao l = Kit.ao m) : l.length = m.length := by
  have := congrArg List.length h
  simpa [Kit.ao] using this

set_option maxHeartbeats 1000000 in
theorem wholeF_true (W : World) (ba bo bt bt' : Int) :
    Calls Tryd.prog 13 #[.agg #[.int .i64 ba, .int .i64 bo, .int .i64 bt], .agg #[.int .i64 ba, .int .i64 bo, .int .i64 bt']] W fun e W' => e = .returned (.bool true) ∧ Below W.heap.size W W' := by
  have q1 : (ba == ba) = true := by simp
  have q2 : (bo == bo) = true := by simp
  go_enter Tryd.func13, Tryd.ntmps13
  go_wp2
  go_ret
  exact ⟨rfl, ((Below.refl _ _).alloc (Nat.le_refl _) _).alloc (by simp) _⟩

set_option maxHeartbeats 2000000 in
theorem bEqual_true (w : World) (xo yo : Option Addr) (n cx cy : Nat) (l m : List Bk) (hl : Blks w xo n l) (hm : Blks w yo n m) (h : Kit.ao l = Kit.ao m) :
    Calls Tryd.prog 12 #[.slice xo n cx, .slice yo n cy, .func (.func 13) #[] #[]] w fun e w' => e = .returned (.bool true) ∧ Below w.heap.size w w' := by
  obtain ⟨l1, l2, l3⟩ := hl
  obtain ⟨m1, m2, m3⟩ := hm
  have HA : Hid _ := h
  have q0 : ((n : Int) != (n : Int)) = false := by simp
  clear h
  go_enter Tryd.func12, Tryd.ntmps12
  go_wp2_with fail
  go_loopw [17] (fun i wr => ∃ k : Nat, k ≤ n ∧ i = .int .i64 k ∧ Below w.heap.size w wr) (fun i _ => n - (intOf i).toNat)
  case atStart => exact ⟨0, Nat.zero_le _, rfl, Below.refl _ _⟩
  case round =>
    obtain ⟨k, hk, rfl, hB⟩ := hrel
    by_cases hlt : k < n
    · obtain ⟨b1, o1, x, y, u, rfl, c1, c2, c3, hX⟩ := (l3.below hB).at k (by omega)
      obtain ⟨b2, o2, x', y', u', rfl, d1, d2, d3, hX'⟩ := (m3.below hB).at k (by omega)
      obtain ⟨e1, e2⟩ := ao_at HA.out (k := k) (by omega) (by omega)
      rw [hX.out, hX'.out] at e1 e2
      dsimp only at e1 e2
      subst e1
      subst e2
      have hb1 := below_box wr (.cells #[.int .i64 x, .int .i64 y, .int .i64 u] 32)
      have d1' := keep d1 hb1
      have d2' := keep d2 hb1
      have d3' := keep d3 hb1
      have f := tbox_new' wr ⟨x, y, u⟩ 32
      dsimp only at f
      obtain ⟨W1, hW1⟩ : ∃ W1, wr.alloc (.cells #[.int .i64 x, .int .i64 y, .int .i64 u] 32) = W1 := ⟨_, rfl⟩
      rw [hW1] at hb1 d1' d2' d3' f
      have HW1 : Hid _ := hW1
      obtain ⟨f0, f1, f2⟩ := f
      have hb2 := below_box W1 (.cells #[.int .i64 x, .int .i64 y, .int .i64 u'] 32)
      have f0' := keep f0 hb2
      have f1' := keep f1 hb2
      have f2' := keep f2 hb2
      have g := tbox_new' W1 ⟨x, y, u'⟩ 32
      dsimp only at g
      obtain ⟨W2, hW2⟩ : ∃ W2, W1.alloc (.cells #[.int .i64 x, .int .i64 y, .int .i64 u'] 32) = W2 := ⟨_, rfl⟩
      rw [hW2] at hb2 f0' f1' f2' g
      have HW2 : Hid _ := hW2
      obtain ⟨g0, g1, g2⟩ := g
      have hB1 := hB.trans (hb1.mono hB.size)
      have hB2 := hB1.trans (hb2.mono hB1.size)
      clear hW1 hW2 hX hX' l3 m3 hb1 hb2
      go_wp2_with (first | rw [HW1.out] | rw [HW2.out])
      go_at_call 13
      refine (wholeF_true W2 x y u u').mono ?_
      rintro e w3 ⟨rfl, hb3⟩
      have hB3 := hB2.trans (hb3.mono hB2.size)
      clear HW1 HW2 hB1 hB2 hb3 c1 c2 c3 d1 d2 d3 d1' d2' d3' f0 f1 f2 f0' f1' f2' g0 g1 g2
      go_wp2
      go_roundw
      case rel => exact ⟨k + 1, by omega, by go_num, hB3⟩
      case measure => simp [intOf]; omega
    · go_wp2
      go_ret
      exact ⟨rfl, hB⟩

set_option maxHeartbeats 2000000 in
theorem zoneTells_true (w : World) (hT : TabAt w) :
    Calls Tryd.prog 10 #[] w fun e w' => e = .returned (.bool true) ∧ Below w.heap.size w w' := by
  go_enter Tryd.func10, Tryd.ntmps10
  go_wp2_with fail
  go_at_call 8
  refine (zoned_any w none 0 0 [] ⟨rfl, by omega, by omega, RawsAt.nil _ _, fun i hi => by omega⟩ 0 (by omega) hT).mono ?_
  rintro e w1 ⟨z, aw, fo, fn, fc, to_, tn, tc, ro, m, rcap, rfl, hz, _, _, _, hz0, hb1⟩
  obtain rfl : z = zone0 := by have := (hz0 rfl).symm.trans first_zone; exact Option.some.inj this
  have h9 : fn = 9 := hz.free.len.symm
  subst h9
  have B1 := zbox_new w1 (.int .i64 zone0.f) (.int .i64 zone0.t) (.slice fo 9 fc) (.slice to_ tn tc) 26
  have hB := hb1.trans ((below_box w1 (.cells #[.int .i64 zone0.f, .int .i64 zone0.t, .slice fo 9 fc, .slice to_ tn tc] 26)).mono hb1.size)
  have c2 := B1.c2
  obtain ⟨W1, hW1⟩ : ∃ W1, w1.alloc (.cells #[.int .i64 zone0.f, .int .i64 zone0.t, .slice fo 9 fc, .slice to_ tn tc] 26) = W1 := ⟨_, rfl⟩
  rw [hW1] at hB c2
  have HW1 : Hid _ := hW1
  clear hW1 B1 hz
  go_wp2_with (rw [HW1.out])
  go_ret
  exact ⟨rfl, hB⟩

/-- What the loop of ZoneWhole holds. -/
structure WhI (w : World) (zb : Nat) (ro : Option Addr) (m : Nat) (aw : List Bk) (k : Nat) (W : World) : Prop where
  b : Below w.heap.size w W
  zb1 : w.heap.size ≤ zb
  away : Blks W ro m aw
  apt : Apt ro m zb
  st : ∃ z fo fn fc to_ tn tc, ZBox W zb (.int .i64 z.f) (.int .i64 z.t) (.slice fo fn fc) (.slice to_ tn tc) ∧ ZnAt W fo fn to_ tn z ∧ ZI z (aw.drop k)

theorem drop_cut {l : List Bk} {k : Nat} (h : k < l.length) : (l.drop k).getD 0 .zero = l.getD k .zero ∧ (l.drop k).eraseIdx 0 = l.drop (k + 1) ∧ 0 < (l.drop k).length := by
  refine ⟨?_, ?_, by simp; omega⟩
  · rw [List.getD_eq_getElem?_getD, List.getD_eq_getElem?_getD, List.getElem?_drop, Nat.add_zero]
  · rw [List.eraseIdx_zero, List.tail_drop]

set_option maxRecDepth 4000 in
set_option maxHeartbeats 8000000 in
theorem zoneWhole_walk (ao : Option Addr) (n cap : Nat) (l : List Raw4) (w : World) (h : IsRaws w ao n cap l) (hT : TabAt w) :
    Calls Tryd.prog 4 #[.slice ao n cap] w fun e w' => e = .returned (.bool true) ∧ Below w.heap.size w w' := by
  go_enter Tryd.func4, Tryd.ntmps4
  go_wp2_with fail
  go_at_call 10
  refine (zoneTells_true w hT).mono ?_
  rintro e w0 ⟨rfl, hb0⟩
  have hR0 : IsRaws w0 ao n cap l := ⟨h.len, h.le, h.reach, h.at_.below hb0, h.wf⟩
  have hT0 := hT.below hb0
  go_wp2_with fail
  go_at_call 8
  refine (zoned_any w0 ao n cap l hR0 60 (by omega) hT0).mono ?_
  rintro e w1 ⟨z, aw, fo, fn, fc, to_, tn, tc, ro, m, rcap, rfl, hz, hro, hZ, hm60, _, hb1⟩
  have hB1 := hb0.trans (hb1.mono hb0.size)
  have hbx := below_box w1 (.cells #[.int .i64 z.f, .int .i64 z.t, .slice fo fn fc, .slice to_ tn tc] 26)
  have B1 := zbox_new w1 (.int .i64 z.f) (.int .i64 z.t) (.slice fo fn fc) (.slice to_ tn tc) 26
  have z1 := hz.below hbx
  have r1 := hro.below hbx
  have hB2 := hB1.trans (hbx.mono hB1.size)
  obtain ⟨W1, hW1⟩ : ∃ W1, w1.alloc (.cells #[.int .i64 z.f, .int .i64 z.t, .slice fo fn fc, .slice to_ tn tc] 26) = W1 := ⟨_, rfl⟩
  rw [hW1] at B1 z1 hB2 r1
  have HW1 : Hid _ := hW1
  have I0 : WhI w w1.heap.size ro m aw 0 W1 := ⟨hB2, hB1.size, r1, apt_blks hro (Nat.le_refl _), z, fo, fn, fc, to_, tn, tc, B1, z1, hZ⟩
  have hml := hro.len
  clear hW1 hbx hz hro hb1 B1 z1 r1 hB2 hb0 hR0 h hT0
  go_wp2_with (rw [HW1.out])
  clear HW1
  go_loopw [23] (fun iv wr => ∃ k : Nat, k ≤ m ∧ iv = .int .i64 k ∧ WhI w w1.heap.size ro m aw k wr) (fun iv _ => m - (intOf iv).toNat)
  case atStart => exact ⟨0, Nat.zero_le _, rfl, I0⟩
  case round =>
    obtain ⟨k, hk, rfl, I⟩ := hrel
    clear I0
    obtain ⟨z, fo, fn, fc, to_, tn, tc, Bx, zn, hZk⟩ := I.st
    have c0 := Bx.c0
    have c1 := Bx.c1
    have c2 := Bx.c2
    have c3 := Bx.c3
    by_cases hlt : k < m
    · obtain ⟨b1, o1, x, y, u, rfl, x0, x1, x2, hX⟩ := I.away.at_.at k (by omega)
      obtain ⟨e1, e2, e3⟩ := drop_cut (l := aw) (k := k) (by omega)
      obtain ⟨hin, hno, hZ'⟩ := zi_back hZk e3 (e1.trans hX.out)
      rw [e2] at hZ'
      have hbx := below_box wr (.cells #[.int .i64 x, .int .i64 y, .int .i64 u] 32)
      have f := tbox_new' wr ⟨x, y, u⟩ 32
      dsimp only at f
      have Bx1 := Bx.below hbx
      have zn1 := zn.below hbx
      have aw1 := I.away.below hbx
      have hB1' := I.b.trans (hbx.mono I.b.size)
      have hzb := I.zb1
      have hapt := I.apt
      have hzl := Bx.lt
      obtain ⟨W3, hW3⟩ : ∃ W3, wr.alloc (.cells #[.int .i64 x, .int .i64 y, .int .i64 u] 32) = W3 := ⟨_, rfl⟩
      rw [hW3] at f Bx1 zn1 aw1 hB1'
      have HW3 : Hid _ := hW3
      obtain ⟨f0, f1, f2⟩ := f
      obtain ⟨Y, hY⟩ : ∃ Y, backZ z x y = Y := ⟨_, rfl⟩
      have HBk := zBack_ok W3 fo fn fc to_ tn tc z x y zn1 hZk.may hin hno
      rw [hY] at HBk hZ'
      clear c0 c1 c2 c3 hW3 hY I Bx zn hX e1 e2 e3
      have c0 := Bx1.c0
      have c1 := Bx1.c1
      have c2 := Bx1.c2
      have c3 := Bx1.c3
      go_wp2_with (rw [HW3.out])
      go_at_call 11
      refine HBk.mono ?_
      rintro e w4 ⟨⟨fo', fn', fc', to', tn', tc', rfl, hz4, q1, q2⟩, hb4⟩
      have hbx := below_box w4 (.cells #[.int .i64 Y.f, .int .i64 Y.t, .slice fo' fn' fc', .slice to' tn' tc'] 26)
      have Bt := zbox_new w4 (.int .i64 Y.f) (.int .i64 Y.t) (.slice fo' fn' fc') (.slice to' tn' tc') 26
      have hb5 := hb4.trans (hbx.mono hb4.size)
      obtain ⟨R5, B6, z6, bt6⟩ := store_zone (fc := fc') (tc := tc') Bx1 hb5 (hz4.below hbx) q1 q2
      have aw6 := Blks.apt (aw1.below hb5) bt6 hapt
      have hB6 := (hB1'.trans (hb5.mono hB1'.size)).trans (bt6.below (by omega) (Nat.le_trans hB1'.size hb5.size))
      obtain ⟨W5, hW5⟩ : ∃ W5, w4.alloc (.cells #[.int .i64 Y.f, .int .i64 Y.t, .slice fo' fn' fc', .slice to' tn' tc'] 26) = W5 := ⟨_, rfl⟩
      rw [hW5] at Bt R5 B6 z6 aw6 hB6 bt6
      have HW5 : Hid _ := hW5
      obtain ⟨W6, hW6⟩ : ∃ W6, (((W5.setCell ⟨w1.heap.size, 0, none⟩ (.int .i64 Y.f)).setCell ⟨w1.heap.size, 1, none⟩ (.int .i64 Y.t)).setCell ⟨w1.heap.size, 2, none⟩ (.slice fo' fn' fc')).setCell ⟨w1.heap.size, 3, none⟩ (.slice to' tn' tc') = W6 := ⟨_, rfl⟩
      rw [hW6] at B6 z6 aw6 hB6
      have HW6 : Hid _ := hW6
      obtain ⟨⟨_, d0⟩, ⟨_, d1⟩, ⟨_, d2⟩, ⟨_, d3⟩, g0, g1, g2, g3⟩ := id R5
      have t0 := Bt.c0
      have t1 := Bt.c1
      have t2 := Bt.c2
      have t3 := Bt.c3
      have I6 : WhI w w1.heap.size (some ⟨b1, o1, none⟩) m aw (k + 1) W6 := ⟨hB6, hzb, aw6, hapt, Y, fo', fn', fc', to', tn', tc', B6, z6, hZ'⟩
      clear c0 c1 c2 c3 hW5 hW6 HBk Bx1 zn1 aw1 R5 B6 z6 aw6 hB6 Bt bt6 hbx hb5 hz4 f0 f1 f2 HW3
      go_wp2_with (first | rw [HW5.out] | rw [HW6.out])
      clear HW5 HW6 d0 d1 d2 d3 g0 g1 g2 g3 t0 t1 t2 t3
      go_roundw
      case rel => exact ⟨k + 1, by omega, by go_num, I6⟩
      case measure => simp [intOf]; omega
    · have hkm : aw.drop k = [] := List.drop_of_length_le (by omega)
      rw [hkm] at hZk
      have hB := I.b
      have hT4 := hT.below hB
      go_wp2_with fail
      go_at_call 8
      refine (zoned_any wr none 0 0 [] ⟨rfl, by omega, by omega, RawsAt.nil _ _, fun i hi => by omega⟩ 0 (by omega) hT4).mono ?_
      rintro e w5 ⟨y, aw', fo', fn', fc', to', tn', tc', ro', m', rcap', rfl, hy, _, _, _, hy0, hb5⟩
      obtain rfl : y = zone0 := by have := (hy0 rfl).symm.trans first_zone; exact Option.some.inj this
      obtain ⟨Z0, e0, hZ0⟩ := zi_first
      rw [first_zone] at e0
      cases e0
      have hao : Kit.ao z.free = Kit.ao zone0.free := free_unique hZk.may hZ0.may (hZk.f.trans hZ0.f.symm) (hZk.t.trans hZ0.t.symm) (fun p => by
        have h1 := hZk.cnt p
        have h2 := hZ0.cnt p
        have e1 : cnt ([] : List Bk) p = 0 := rfl
        rw [e1] at h1 h2
        omega)
      have hlen := ao_len hao
      have hbx := below_box w5 (.cells #[.int .i64 zone0.f, .int .i64 zone0.t, .slice fo' fn' fc', .slice to' tn' tc'] 26)
      have By := zbox_new w5 (.int .i64 zone0.f) (.int .i64 zone0.t) (.slice fo' fn' fc') (.slice to' tn' tc') 26
      have yz := hy.below hbx
      have Bz := (Bx.below hb5).below hbx
      have zz := (zn.below hb5).below hbx
      have hB5 := hB.trans (hb5.mono hB.size)
      have hB6 := hB5.trans (hbx.mono hB5.size)
      obtain ⟨W6, hW6⟩ : ∃ W6, w5.alloc (.cells #[.int .i64 zone0.f, .int .i64 zone0.t, .slice fo' fn' fc', .slice to' tn' tc'] 26) = W6 := ⟨_, rfl⟩
      rw [hW6] at By yz Bz zz hB6
      have HW6 : Hid _ := hW6
      have hfn : fn' = fn := by have := yz.free.len; have := zz.free.len; omega
      subst hfn
      have HEq := bEqual_true W6 fo fo' fn' fc fc' z.free zone0.free zz.free yz.free hao
      have y2 := By.c2
      have z2 := Bz.c2
      clear c0 c1 c2 c3 hW6 hbx hy hZk hao By yz Bz zz Bx zn I hZ0 hb5 hB5 hT4 hy0
      go_wp2_with (rw [HW6.out])
      go_at_call 12
      refine HEq.mono ?_
      rintro e w7 ⟨rfl, hb7⟩
      have hB7 := hB6.trans (hb7.mono hB6.size)
      clear HEq
      go_wp2
      go_ret
      exact ⟨rfl, hB7⟩

end Go.Proofs.YtffhpjjioefaeafDoor
