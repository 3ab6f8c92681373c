/-
  OWN TEXTS, bundled: RefZf, ZTyp, ZFulP, ZUnq, ZTkR, RefTk1, RefTkP, RefTk3.
-/
import Derived.Test.YtpfafhgllabhbaaDoorBuddyTakesPart2
import Derived.Test.YtpfafhgllabhbaaDoorBuddyTakesPart1
import Derived.Test.YtpfafhgllabhbaaDoorBuddyTakesPart9
import Derived.KernelRfl
import Derived.Test.YtpfafhgllabhbaaDoorBuddyTakesPart5

/-
  OWN TEXT. Contracts of the document's answer: lowestOf.
-/
namespace Go.Proofs.YtpfafhgllabhbaaDoor
open Go Go.RowKit Go.Proofs.YtpfafhgllabhbaaDoor.Kit

/-- The first of an order and a type. -/
def lowB (l : List Bk) (o t : Int) : Option Bk := l.find? fun b => decide (b.o = o ∧ b.t = t)
theorem lowB_snoc (l : List Bk) (o t : Int) (b : Bk) : lowB (l ++ [b]) o t = match lowB l o t with | some x => some x | none => if b.o = o ∧ b.t = t then some b else none := by
  unfold lowB
  rw [List.find?_append]
  cases l.find? (fun b => decide (b.o = o ∧ b.t = t)) with
  | some x => rfl
  | none =>
    by_cases h : b.o = o ∧ b.t = t
    · simp [h]
    · simp [h]

/-- A block in a variable: its three cells, that may be written. -/
structure TBox (W : World) (b : Nat) (q : Bk) : Prop where
  c0 : W.cell? ⟨b, 0, none⟩ = some (.int .i64 q.a)
  c1 : W.cell? ⟨b, 1, none⟩ = some (.int .i64 q.o)
  c2 : W.cell? ⟨b, 2, none⟩ = some (.int .i64 q.t)
  z0 : W.frozen? ⟨b, 0, none⟩ = false
  z1 : W.frozen? ⟨b, 1, none⟩ = false
  z2 : W.frozen? ⟨b, 2, none⟩ = false
theorem TBox.below {W W' : World} {b : Nat} {q : Bk} (h : TBox W b q) (hb : Below W.heap.size W W') : TBox W' b q := by
  have hlt := World.block_lt_of_cell? W _ h.c0
  exact ⟨keep h.c0 hb, keep h.c1 hb, keep h.c2 hb, (hb.frozen (p := ⟨b, 0, none⟩) hlt).trans h.z0, (hb.frozen (p := ⟨b, 1, none⟩) hlt).trans h.z1, (hb.frozen (p := ⟨b, 2, none⟩) hlt).trans h.z2⟩
theorem TBox.set {W : World} {b : Nat} {q : Bk} (h : TBox W b q) (r : Bk) : TBox (((W.setCell ⟨b, 0, none⟩ (.int .i64 r.a)).setCell ⟨b, 1, none⟩ (.int .i64 r.o)).setCell ⟨b, 2, none⟩ (.int .i64 r.t)) b r := by
  have o : ∀ (X : World) (i j : Nat) (v : Value), i ≠ j → (X.setCell ⟨b, i, none⟩ v).cell? ⟨b, j, none⟩ = X.cell? ⟨b, j, none⟩ := fun X i j v hij => World.cell?_setCell_other _ _ _ _ (by intro g; cases g; exact hij rfl)
  refine ⟨?_, ?_, ?_, by simpa using h.z0, by simpa using h.z1, by simpa using h.z2⟩
  · rw [o _ 2 0 _ (by decide), o _ 1 0 _ (by decide)]
    exact World.cell?_setCell_same _ _ _ h.c0
  · rw [o _ 2 1 _ (by decide)]
    exact World.cell?_setCell_same _ _ _ ((o _ 0 1 _ (by decide)).trans h.c1)
  · exact World.cell?_setCell_same _ _ _ ((o _ 1 2 _ (by decide)).trans ((o _ 0 2 _ (by decide)).trans h.c2))
theorem but3 (W : World) (b : Nat) (x y u : Value) : But b W (((W.setCell ⟨b, 0, none⟩ x).setCell ⟨b, 1, none⟩ y).setCell ⟨b, 2, none⟩ u) := ((((But.refl b W).setCell x).setCell y).setCell u)
theorem TBox.but {W W' : World} {b c : Nat} {q : Bk} (h : TBox W b q) (hb : But c W W') (hne : b ≠ c) : TBox W' b q := by
  have hbk := hb.block b (World.block_lt_of_cell? W _ h.c0) hne
  exact ⟨hb.cell h.c0 hne, hb.cell h.c1 hne, hb.cell h.c2 hne, (World.frozen?_of_block (a := ⟨b, 0, none⟩) hbk).trans h.z0, (World.frozen?_of_block (a := ⟨b, 1, none⟩) hbk).trans h.z1, (World.frozen?_of_block (a := ⟨b, 2, none⟩) hbk).trans h.z2⟩
theorem tbox_new (W : World) (q : Bk) (t : TypeId) : TBox (W.alloc (.cells #[.int .i64 q.a, .int .i64 q.o, .int .i64 q.t] t)) W.heap.size q := ⟨by simp, by simp, by simp, by simp, by simp, by simp⟩

/-- What is found behind the first k. -/
def FoundB (l : List Bk) (o t : Int) (fd : Bool) (q : Bk) : Prop := if fd = true then lowB l o t = some q else lowB l o t = none ∧ q = Bk.zero

set_option maxHeartbeats 2000000 in
set_option maxRecDepth 4000 in
theorem lowestOf_any (w : World) (ao : Option Addr) (n cap : Nat) (l : List Bk) (o t : Int) (h : Blks w ao n l) (hrise : ∀ i j, i < j → j < l.length → (l.getD i .zero).a ≤ (l.getD j .zero).a) :
    Calls Tryd.prog 22 #[.slice ao n cap, .int .i64 o, .int .i64 t] w fun e w' => (∃ fd q, e = .returned (.tuple #[.agg #[.int .i64 q.a, .int .i64 q.o, .int .i64 q.t], .bool fd]) ∧ FoundB l o t fd q) ∧ Below w.heap.size w w' := by
  obtain ⟨hn, hr, hx⟩ := h
  obtain ⟨W0, hW0⟩ : ∃ W0, (w.alloc (.cells #[.int .i64 0, .int .i64 0, .int .i64 0] 42)).alloc (.cells #[.int .i64 0, .int .i64 0, .int .i64 0] 42) = W0 := ⟨_, rfl⟩
  have hb0 : Below w.heap.size w W0 := by rw [← hW0]; exact ((Below.refl _ _).alloc (Nat.le_refl _) _).alloc (by simp) _
  have T0 : TBox W0 (w.heap.size + 1) .zero := by
    rw [← hW0]
    have := tbox_new (w.alloc (.cells #[.int .i64 0, .int .i64 0, .int .i64 0] 42)) .zero 42
    simpa [Bk.zero] using this
  have U0 : TBox W0 w.heap.size .zero := by
    rw [← hW0]
    have := (tbox_new w .zero 42).below (below_box _ (.cells #[.int .i64 0, .int .i64 0, .int .i64 0] 42))
    simpa [Bk.zero] using this
  have HW0 : Hid _ := hW0
  clear hW0
  go_enter Tryd.func22, Tryd.ntmps22
  go_wp2
  rw [HW0.out]
  clear HW0
  go_loopw [9, 10] (fun fv i wr => ∃ (k : Nat) (fd : Bool) (q : Bk), k ≤ n ∧ fv = .bool fd ∧ i = .int .i64 k ∧ FoundB (l.take k) o t fd q ∧ TBox wr (w.heap.size + 1) q ∧ TBox wr w.heap.size .zero ∧ Below w.heap.size w wr) (fun _ i _ => n - (intOf i).toNat)
  case atStart => exact ⟨0, false, .zero, Nat.zero_le _, rfl, rfl, ⟨rfl, rfl⟩, T0, U0, hb0⟩
  case round =>
    obtain ⟨k, fd, q, hk, rfl, rfl, hL, T, U, hb⟩ := hrel
    clear T0 U0 hb0
    have e0 := T.c0
    by_cases hlt : k < n
    · obtain ⟨b, of, x, y, u, rfl, c1, c2, c3, hX⟩ := (hx.below hb).at k (by omega)
      have htk := take_getD l k (by omega) hX.out
      have hno : ¬ (y = o ∧ u = t) → FoundB (l.take (k + 1)) o t fd q := fun g => by
        unfold FoundB at hL ⊢
        rw [htk, lowB_snoc]
        cases fd with
        | true => simp only [if_true] at hL ⊢; rw [hL]
        | false => simp only [Bool.false_eq_true, if_false] at hL ⊢; rw [hL.1]; dsimp only; rw [if_neg g]; exact ⟨rfl, hL.2⟩
      by_cases g1 : y = o
      · have g1b : (y == o) = true := by simpa using g1
        by_cases g2 : u = t
        · have g2b : (u == t) = true := by simpa using g2
          cases fd with
          | true =>
            have hq : lowB (l.take k) o t = some q := by simpa [FoundB] using hL
            have hge : q.a ≤ x := by
              have hm := List.mem_of_find?_eq_some hq
              obtain ⟨i, hi, he⟩ := List.getElem_of_mem hm
              have hi' : i < k := by simp at hi; omega
              have h1 := hrise i k hi' (by omega)
              rw [hX.out] at h1
              have h2 : l.getD i .zero = q := by rw [← he, List.getElem_take, List.getD_eq_getElem?_getD, List.getElem?_eq_getElem (by omega)]; rfl
              rw [h2] at h1
              exact h1
            have hlb : decide (x < q.a) = false := decide_eq_false (by omega)
            have hL' : FoundB (l.take (k + 1)) o t true q := by unfold FoundB; rw [htk, lowB_snoc, hq]; rfl
            clear hL hq hno htk hX hge g1 g2
            go_wp2
            go_quiet (fail)
            have hbq := below_drawn (w := wr) nq
            have T1 := T.below hbq
            have U1 := U.below hbq
            have hb1 := hb.trans (hbq.mono hb.size)
            replace c1 := keep c1 hbq
            replace c2 := keep c2 hbq
            replace c3 := keep c3 hbq
            obtain ⟨W1, hW1⟩ : ∃ W1, wr.drewN nq = W1 := ⟨_, rfl⟩
            rw [hW1] at T1 U1 hb1 c1 c2 c3 ⊢
            clear hW1 T U hb
            clear hbq c1 c2 c3 e0
            go_wp2
            go_roundw
            case rel => exact ⟨k + 1, true, q, by omega, rfl, by go_num, hL', T1, U1, hb1⟩
            case measure => simp [intOf]; omega
          | false =>
            have hq : lowB (l.take k) o t = none := by have := hL; simp [FoundB] at this; exact this.1
            have hL' : FoundB (l.take (k + 1)) o t true ⟨x, y, u⟩ := by
              have h9 : lowB (l.take (k + 1)) o t = some ⟨x, y, u⟩ := by rw [htk, lowB_snoc, hq]; exact if_pos ⟨g1, g2⟩
              unfold FoundB; rw [if_pos rfl]; exact h9
            clear hL hq hno htk g1 g2
            go_wp2
            go_quiet (fail)
            have hbq := below_drawn (w := wr) nq
            have T1 := T.below hbq
            have U1 := U.below hbq
            have hb1 := hb.trans (hbq.mono hb.size)
            replace c1 := keep c1 hbq
            replace c2 := keep c2 hbq
            replace c3 := keep c3 hbq
            obtain ⟨W1, hW1⟩ : ∃ W1, wr.drewN nq = W1 := ⟨_, rfl⟩
            rw [hW1] at T1 U1 hb1 c1 c2 c3 ⊢
            clear hW1 T U hb
            have s0 := T1.c0
            have s1 := T1.c1
            have s2 := T1.c2
            have r0 := T1.z0
            have r1 := T1.z1
            have r2 := T1.z2
            have T2 := T1.set ⟨x, y, u⟩
            have hbt := but3 W1 (w.heap.size + 1) (.int .i64 x) (.int .i64 y) (.int .i64 u)
            have U2 := U1.but hbt (by omega)
            have hb2 := hb1.trans (hbt.below (B := w.heap.size) (by omega) hb1.size)
            dsimp only at T2
            clear hbq e0 T1 U1 hb1 hbt
            go_wp2
            go_roundw
            case rel => exact ⟨k + 1, true, ⟨x, y, u⟩, by omega, rfl, by go_num, hL', T2, U2, hb2⟩
            case measure => simp [intOf]; omega
        · have g2b : (u == t) = false := by simpa using g2
          have hL' := hno (fun g => g2 g.2)
          clear hL hno htk hX g1 g2
          go_wp2
          go_quiet (fail)
          have hbq := below_drawn (w := wr) nq
          have T1 := T.below hbq
          have U1 := U.below hbq
          have hb1 := hb.trans (hbq.mono hb.size)
          replace c1 := keep c1 hbq
          replace c2 := keep c2 hbq
          replace c3 := keep c3 hbq
          obtain ⟨W1, hW1⟩ : ∃ W1, wr.drewN nq = W1 := ⟨_, rfl⟩
          rw [hW1] at T1 U1 hb1 c1 c2 c3 ⊢
          clear hW1 T U hb
          clear hbq c1 c2 c3 e0
          go_wp2
          go_roundw
          case rel => exact ⟨k + 1, fd, q, by omega, rfl, by go_num, hL', T1, U1, hb1⟩
          case measure => simp [intOf]; omega
      · have g1b : (y == o) = false := by simpa using g1
        have hL' := hno (fun g => g1 g.1)
        clear hL hno htk hX g1
        go_wp2
        go_quiet (fail)
        have hbq := below_drawn (w := wr) nq
        have T1 := T.below hbq
        have U1 := U.below hbq
        have hb1 := hb.trans (hbq.mono hb.size)
        replace c1 := keep c1 hbq
        replace c2 := keep c2 hbq
        replace c3 := keep c3 hbq
        obtain ⟨W1, hW1⟩ : ∃ W1, wr.drewN nq = W1 := ⟨_, rfl⟩
        rw [hW1] at T1 U1 hb1 c1 c2 c3 ⊢
        clear hW1 T U hb
        clear hbq c1 c2 c3 e0
        go_wp2
        go_roundw
        case rel => exact ⟨k + 1, fd, q, by omega, rfl, by go_num, hL', T1, U1, hb1⟩
        case measure => simp [intOf]; omega
    · obtain rfl : k = n := by omega
      rw [List.take_of_length_le (by omega)] at hL
      have e1 := T.c1
      have e2 := T.c2
      have s0 := U.c0
      have s1 := U.c1
      have s2 := U.c2
      have r0 := U.z0
      have r1 := U.z1
      have r2 := U.z2
      have U2 := U.set q
      have hbt := but3 wr w.heap.size (.int .i64 q.a) (.int .i64 q.o) (.int .i64 q.t)
      have hb2 := hb.trans (hbt.below (Nat.le_refl _) hb.size)
      have HL : Hid _ := hL
      clear T U hb hbt hL
      go_wp2
      have k0 := U2.c0
      have k1 := U2.c1
      have k2 := U2.c2
      exact bodyPost_ret (v := .tuple #[.agg #[.int .i64 q.a, .int .i64 q.o, .int .i64 q.t], .bool fd]) (by simp [results, Tryd.results22, go_sem, k0, k1, k2]) rfl ⟨⟨fd, q, rfl, HL.out⟩, hb2⟩

end Go.Proofs.YtpfafhgllabhbaaDoor

/-
  OWN TEXT. The type of a page's group.
-/
namespace Go.Proofs.YtpfafhgllabhbaaDoor.Kit

/-- The type of the group of a page. -/
def typeZ (z : Zn) (a : Int) : Int := z.types.getD ((a - z.f) / 8).toNat 0

end Go.Proofs.YtpfafhgllabhbaaDoor.Kit

/-
  OWN TEXT. When there is a block: plain mathematics. The zone at the beginning, and what is taken of it.
-/
namespace Go.Proofs.YtpfafhgllabhbaaDoor.Kit

theorem fidx_has {g : Bk → Bool} {l : List Bk} {b : Bk} (hb : b ∈ l) (hg : g b = true) : 0 ≤ fidx g l := by
  induction l with
  | nil => simp at hb
  | cons x l ih =>
    show 0 ≤ (if g x = true then (0 : Int) else if fidx g l < 0 then -1 else fidx g l + 1)
    by_cases hx : g x = true
    · rw [if_pos hx]; omega
    · rw [if_neg hx]
      have hm : b ∈ l := by
        rcases List.mem_cons.1 hb with rfl | hm
        · exact absurd hg hx
        · exact hm
      have := ih hm
      rw [if_neg (by omega)]
      omega

theorem upI_has {l : List Bk} {t : Int} : ∀ (n : Nat) (o : Int) (k : Nat), k < n → 0 ≤ fidx (isT (o + k) t) l → 0 ≤ upI l t n o := by
  intro n
  induction n with
  | zero => intro o k hk; omega
  | succ n ih =>
    intro o k hk hf
    unfold upI
    split
    · assumption
    · rename_i hno
      cases k with
      | zero => exact absurd (by simpa using hf) hno
      | succ k => exact ih (o + 1) k (by omega) (by rw [show o + 1 + (k : Int) = o + ((k + 1 : Nat) : Int) by omega]; exact hf)

theorem dnI_has {l : List Bk} {u v o : Int} : ∀ (n : Nat) (k : Nat), k < n → (0 ≤ fidx (isT (o + k) u) l ∨ 0 ≤ fidx (isT (o + k) v) l) → 0 ≤ dnI l u v o n := by
  intro n
  induction n with
  | zero => intro k hk; omega
  | succ n ih =>
    intro k hk hf
    unfold dnI
    split
    · assumption
    · split
      · assumption
      · rename_i h1 h2
        by_cases hkn : k = n
        · subst hkn
          rcases hf with hf | hf
          · exact absurd hf h1
          · exact absurd hf h2
        · exact ih k (by omega) hf

theorem choose_iff {l : List Bk} {o t : Int} (hl : ∀ b ∈ l, ordOk b.o ∧ typeOk b.t) (ho : ordOk o) (ht : typeOk t) : 0 ≤ chooseI l o t ↔ ∃ b ∈ l, o ≤ b.o := by
  constructor
  · intro h
    obtain ⟨i, _, hi, hob⟩ := choose_in h
    exact ⟨_, getD_mem hi, hob⟩
  · rintro ⟨b, hb, hob⟩
    obtain ⟨⟨b0, b4⟩, ⟨c0, c2⟩⟩ := hl b hb
    have hk : (b.o - o).toNat < (5 - o).toNat := by have := ho.1; omega
    have e : o + ((b.o - o).toNat : Int) = b.o := by omega
    unfold chooseI
    split
    · assumption
    · rename_i hno
      refine dnI_has _ (b.o - o).toNat hk ?_
      rw [e]
      by_cases h1 : b.t = t
      · exact absurd (upI_has _ o (b.o - o).toNat hk (by rw [e]; exact fidx_has hb (decide_eq_true ⟨rfl, h1⟩))) hno
      · obtain ⟨t0, t2⟩ := ht
        by_cases h2 : b.t = other1 t
        · exact .inl (fidx_has hb (decide_eq_true ⟨rfl, h2⟩))
        · refine .inr (fidx_has hb (decide_eq_true ⟨rfl, ?_⟩))
          unfold other1 at h2
          unfold other2
          split at h2 <;> split <;> omega

theorem may_ok {z : Zn} (h : ZMay z) : ∀ b ∈ z.free, ordOk b.o ∧ typeOk b.t := fun b hb => by
  obtain ⟨h1, h2⟩ := (free_iff.1 h.free).1 b hb
  exact ⟨h1.1, h2⟩

/-- The zone at the beginning. -/
def zone0 : Zn := ⟨16, 112, [⟨18, 1, 1⟩, ⟨20, 2, 1⟩, ⟨24, 3, 1⟩, ⟨32, 4, 1⟩, ⟨48, 4, 1⟩, ⟨64, 4, 1⟩, ⟨80, 4, 1⟩, ⟨96, 3, 1⟩, ⟨104, 2, 1⟩], [1, 1, 1, 1, 1, 1, 1, 1, 1, 1, 1, 1]⟩
set_option maxRecDepth 100000 in
theorem first_zone : firstZ = some zone0 := by kernel_rfl
theorem ch1 : chooseI zone0.free 3 1 = ((2 : Nat) : Int) := by kernel_rfl
theorem ch0 : chooseI zone0.free 3 0 = ((3 : Nat) : Int) := by kernel_rfl
theorem ch2 : chooseI zone0.free 3 2 = ((3 : Nat) : Int) := by kernel_rfl
theorem ch00 : chooseI (takeZ zone0 3 0 3).free 0 0 = ((3 : Nat) : Int) := by kernel_rfl
theorem ch22 : chooseI (takeZ zone0 3 2 3).free 0 2 = ((3 : Nat) : Int) := by kernel_rfl
theorem at1 : (zone0.free.getD 2 .zero).a = 24 := by kernel_rfl
theorem at0 : (zone0.free.getD 3 .zero).a = 32 := by kernel_rfl
theorem at00 : ((takeZ zone0 3 0 3).free.getD 3 .zero).a = 40 := by kernel_rfl
theorem at22 : ((takeZ zone0 3 2 3).free.getD 3 .zero).a = 40 := by kernel_rfl
theorem ty1 : typeZ (takeZ zone0 3 1 2) 24 = 1 := by kernel_rfl
theorem ty0 : typeZ (takeZ zone0 3 0 3) 32 = 0 := by kernel_rfl
theorem ty2 : typeZ (takeZ zone0 3 2 3) 32 = 2 := by kernel_rfl
theorem ty00 : typeZ (takeZ (takeZ zone0 3 0 3) 0 0 3) 40 = 0 := by kernel_rfl
theorem ty22 : typeZ (takeZ (takeZ zone0 3 2 3) 0 2 3) 40 = 2 := by kernel_rfl

end Go.Proofs.YtpfafhgllabhbaaDoor.Kit

/-
  OWN TEXT. Blocks that are put together as often as they can be are told by their pages: plain mathematics.
-/
namespace Go.Proofs.YtpfafhgllabhbaaDoor.Kit

theorem hit_one {a o p : Int} : 0 < hit a o p ↔ a ≤ p ∧ p < a + pw o := by
  unfold hit
  split <;> simp_all
theorem cnt_pos {l : List Bk} {p : Int} : 0 < cnt l p ↔ ∃ b ∈ l, b.a ≤ p ∧ p < b.a + pw b.o := by
  induction l with
  | nil => simp [cnt]
  | cons x l ih =>
    constructor
    · intro h
      simp only [cnt] at h
      by_cases hx : 0 < hit x.a x.o p
      · exact ⟨x, by simp, hit_one.1 hx⟩
      · obtain ⟨b, hb, g⟩ := ih.1 (by omega)
        exact ⟨b, by simp [hb], g⟩
    · rintro ⟨b, hb, g⟩
      simp only [cnt]
      rcases List.mem_cons.1 hb with rfl | hb
      · have := hit_one.2 g; omega
      · have := ih.2 ⟨b, hb, g⟩; omega

/-- Two blocks of a list that rises. -/
theorem ahead_two {l : List Bk} (h : l.Pairwise Ahead) {p q : Bk} (hp : p ∈ l) (hq : q ∈ l) (hlt : p.a < q.a) : Ahead p q := by
  induction l with
  | nil => simp at hp
  | cons x l ih =>
    obtain ⟨h1, h2⟩ := List.pairwise_cons.1 h
    rcases List.mem_cons.1 hp with rfl | hp'
    · rcases List.mem_cons.1 hq with rfl | hq'
      · omega
      · exact h1 q hq'
    · rcases List.mem_cons.1 hq with rfl | hq'
      · have := (h1 p hp').1
        have := pw_pos q.o
        omega
      · exact ih h2 hp' hq'

/-- An aligned block that lies in a greater aligned one. -/
theorem up_in {a b k o : Int} (hk : ordOk k) (ho : ordOk o) (hko : k ≤ o) (ha : a % pw k = 0) (hb : b % pw o = 0) (h1 : b ≤ a) (h2 : a < b + pw o) : a + pw k ≤ b + pw o := by
  rcases ord_cases ho with ⟨rfl, e⟩ | ⟨rfl, e⟩ | ⟨rfl, e⟩ | ⟨rfl, e⟩ | ⟨rfl, e⟩ <;> rw [e] at hb h2 ⊢ <;>
    rcases ord_cases hk with ⟨rfl, f⟩ | ⟨rfl, f⟩ | ⟨rfl, f⟩ | ⟨rfl, f⟩ | ⟨rfl, f⟩ <;> rw [f] at ha ⊢ <;> omega

/-- Pages of an aligned block that are all in blocks lie in one. -/
theorem whole_in {f t : Int} {l : List Bk} (hl : AllIn f t l) (hA : l.Pairwise Ahead) : ∀ (k : Nat) (c : Int), k ≤ 4 → c % pw k = 0 → (∀ p, c ≤ p → p < c + pw k → 0 < cnt l p) → ∃ b ∈ l, b.a ≤ c ∧ c + pw k ≤ b.a + pw b.o := by
  intro k
  induction k with
  | zero =>
    intro c _ _ h
    have e : pw ((0 : Nat) : Int) = 1 := pw_0
    rw [e] at h ⊢
    obtain ⟨b, hb, g1, g2⟩ := cnt_pos.1 (h c (by omega) (by omega))
    exact ⟨b, hb, g1, by omega⟩
  | succ k ih =>
    intro c hk hc h
    have e : pw ((k + 1 : Nat) : Int) = 2 * pw (k : Int) := by
      rw [show ((k + 1 : Nat) : Int) = (k : Int) + 1 by omega]
      exact pw_succ _ (by omega)
    have hp := pw_pos (k : Int)
    have ok : ordOk (k : Int) := ⟨by omega, by omega⟩
    have ok1 : ordOk ((k + 1 : Nat) : Int) := ⟨by omega, by omega⟩
    have c1 : c % pw (k : Int) = 0 := mod_down ok1 (by omega) (by omega) hc
    have c2 : (c + pw (k : Int)) % pw (k : Int) = 0 := by rw [Int.add_emod_right]; exact c1
    rw [e] at h
    obtain ⟨b1, m1, g1, g2⟩ := ih c (by omega) c1 (fun p q1 q2 => h p q1 (by omega))
    obtain ⟨b2, m2, g3, g4⟩ := ih (c + pw (k : Int)) (by omega) c2 (fun p q1 q2 => h p (by omega) (by omega))
    obtain ⟨⟨o1, _, _, al1⟩, _⟩ := hl b1 m1
    obtain ⟨⟨o2, _, _, al2⟩, _⟩ := hl b2 m2
    by_cases s1 : ((k + 1 : Nat) : Int) ≤ b1.o
    · exact ⟨b1, m1, g1, up_in ok1 o1 s1 hc al1 g1 (by omega)⟩
    · by_cases s2 : ((k + 1 : Nat) : Int) ≤ b2.o
      · refine ⟨b2, m2, ?_, ?_⟩
        · have := pw_pos b2.o
          have hd : c % pw ((k + 1 : Nat) : Int) = 0 := hc
          -- the greater block that holds the upper half holds the lower one
          rcases ord_cases o2 with ⟨q, e2⟩ | ⟨q, e2⟩ | ⟨q, e2⟩ | ⟨q, e2⟩ | ⟨q, e2⟩ <;> rw [e2] at al2 g4 <;>
            rcases ord_cases ok1 with ⟨r, e3⟩ | ⟨r, e3⟩ | ⟨r, e3⟩ | ⟨r, e3⟩ | ⟨r, e3⟩ <;> rw [e3] at hd e <;> omega
        · omega
      · exfalso
        have e1 : pw b1.o ≤ pw (k : Int) := pw_mono (by omega)
        have e2 : pw b2.o ≤ pw (k : Int) := pw_mono (by omega)
        have q1 : b1.a = c := by omega
        have q2 : b2.a = c + pw (k : Int) := by omega
        have z1 : b1.o = k := by
          rcases ord_cases o1 with ⟨q, w1⟩ | ⟨q, w1⟩ | ⟨q, w1⟩ | ⟨q, w1⟩ | ⟨q, w1⟩ <;> rcases ord_cases ok with ⟨r, w2⟩ | ⟨r, w2⟩ | ⟨r, w2⟩ | ⟨r, w2⟩ | ⟨r, w2⟩ <;> rw [w1, w2] at e1 <;> rw [w1, w2] at g2 <;> omega
        have z2 : b2.o = k := by
          rcases ord_cases o2 with ⟨q, w1⟩ | ⟨q, w1⟩ | ⟨q, w1⟩ | ⟨q, w1⟩ | ⟨q, w1⟩ <;> rcases ord_cases ok with ⟨r, w2⟩ | ⟨r, w2⟩ | ⟨r, w2⟩ | ⟨r, w2⟩ | ⟨r, w2⟩ <;> rw [w1, w2] at e2 <;> rw [w1, w2] at g4 <;> omega
        have hah := ahead_two hA m1 m2 (by omega)
        refine hah.2 ⟨by omega, by omega, ?_, ?_⟩
        · rw [z2, q1, q2]
        · rw [z2, q1, show (k : Int) + 1 = ((k + 1 : Nat) : Int) by omega]; exact hc

theorem same_of {l : List Bk} (hA : l.Pairwise Ahead) {p q : Bk} (hp : p ∈ l) (hq : q ∈ l) (h1 : q.a ≤ p.a) (h2 : p.a < q.a + pw q.o) : p = q := by
  by_cases e : p.a = q.a
  · induction l with
    | nil => simp at hp
    | cons x l ih =>
      obtain ⟨k1, k2⟩ := List.pairwise_cons.1 hA
      have px := pw_pos x.o
      rcases List.mem_cons.1 hp with rfl | hp'
      · rcases List.mem_cons.1 hq with rfl | hq'
        · rfl
        · have := (k1 q hq').1; omega
      · rcases List.mem_cons.1 hq with rfl | hq'
        · have := (k1 p hp').1; omega
        · exact ih k2 hp' hq'
  · have := (ahead_two hA hq hp (by omega)).1
    omega

/-- A block of the one is a block of the other. -/
theorem in_other {f t : Int} {l m : List Bk} (hl : AllIn f t l) (hlA : l.Pairwise Ahead) (hm : AllIn f t m) (hmA : m.Pairwise Ahead) (hc : ∀ p, cnt l p = cnt m p) {b : Bk} (hb : b ∈ l) : ∃ b' ∈ m, b'.a = b.a ∧ b'.o = b.o := by
  obtain ⟨⟨⟨o0, o4⟩, _, _, al⟩, _⟩ := hl b hb
  have e : ((b.o.toNat : Nat) : Int) = b.o := by omega
  obtain ⟨b', hb', g1, g2⟩ := whole_in hm hmA b.o.toNat b.a (by omega) (by rw [e]; exact al) (fun p q1 q2 => by
    rw [e] at q2
    rw [← hc]
    exact cnt_pos.2 ⟨b, hb, q1, q2⟩)
  rw [e] at g2
  obtain ⟨⟨⟨o0', o4'⟩, _, _, al'⟩, _⟩ := hm b' hb'
  have e' : ((b'.o.toNat : Nat) : Int) = b'.o := by omega
  obtain ⟨b2, hb2, g3, g4⟩ := whole_in hl hlA b'.o.toNat b'.a (by omega) (by rw [e']; exact al') (fun p q1 q2 => by
    rw [e'] at q2
    rw [hc]
    exact cnt_pos.2 ⟨b', hb', q1, q2⟩)
  rw [e'] at g4
  have hp := pw_pos b.o
  have hp' := pw_pos b'.o
  have hs : b = b2 := same_of hlA hb hb2 (by omega) (by omega)
  subst hs
  have ea : b'.a = b.a := by omega
  refine ⟨b', hb', ea, ?_⟩
  have ep : pw b'.o = pw b.o := by omega
  rcases ord_cases (o := b.o) ⟨o0, o4⟩ with ⟨q, w1⟩ | ⟨q, w1⟩ | ⟨q, w1⟩ | ⟨q, w1⟩ | ⟨q, w1⟩ <;> rcases ord_cases (o := b'.o) ⟨o0', o4'⟩ with ⟨r, w2⟩ | ⟨r, w2⟩ | ⟨r, w2⟩ | ⟨r, w2⟩ | ⟨r, w2⟩ <;> rw [w1, w2] at ep <;> omega

theorem rise_eq : ∀ (l m : List (Int × Int)), l.Pairwise (fun x y => x.1 < y.1) → m.Pairwise (fun x y => x.1 < y.1) → (∀ x, x ∈ l ↔ x ∈ m) → l = m := by
  intro l
  induction l with
  | nil =>
    intro m _ _ h
    cases m with
    | nil => rfl
    | cons y m => exact absurd ((h y).2 (by simp)) (by simp)
  | cons x l ih =>
    intro m hl hm h
    cases m with
    | nil => exact absurd ((h x).1 (by simp)) (by simp)
    | cons y m =>
      obtain ⟨a1, a2⟩ := List.pairwise_cons.1 hl
      obtain ⟨b1, b2⟩ := List.pairwise_cons.1 hm
      have hxy : x = y := by
        rcases List.mem_cons.1 ((h x).1 (by simp)) with e | e
        · exact e
        · rcases List.mem_cons.1 ((h y).2 (by simp)) with e' | e'
          · exact e'.symm
          · have := b1 x e; have := a1 y e'; omega
      subst hxy
      rw [ih m a2 b2 fun z => ?_]
      constructor
      · intro hz
        rcases List.mem_cons.1 ((h z).1 (by simp [hz])) with e | e
        · have := a1 z hz; rw [e] at this; omega
        · exact e
      · intro hz
        rcases List.mem_cons.1 ((h z).2 (by simp [hz])) with e | e
        · have := b1 z hz; rw [e] at this; omega
        · exact e

/-- The places and orders. -/
def ao (l : List Bk) : List (Int × Int) := l.map fun b => (b.a, b.o)

theorem free_unique {z y : Zn} (hz : ZMay z) (hy : ZMay y) (hf : z.f = y.f) (ht : z.t = y.t) (hc : ∀ p, cnt z.free p = cnt y.free p) : ao z.free = ao y.free := by
  obtain ⟨z1, z2⟩ := free_iff.1 hz.free
  obtain ⟨y1, y2⟩ := free_iff.1 hy.free
  rw [hf, ht] at z1
  have inc : ∀ l : List Bk, l.Pairwise Ahead → (ao l).Pairwise (fun x y => x.1 < y.1) := fun l h => by
    unfold ao
    rw [List.pairwise_map]
    exact h.imp fun {a b} hab => by have := hab.1; have := pw_pos a.o; show a.a < b.a; omega
  refine rise_eq _ _ (inc _ z2) (inc _ y2) fun x => ?_
  unfold ao
  rw [List.mem_map, List.mem_map]
  constructor
  · rintro ⟨b, hb, rfl⟩
    obtain ⟨b', hb', e1, e2⟩ := in_other z1 z2 y1 y2 hc hb
    exact ⟨b', hb', by rw [e1, e2]⟩
  · rintro ⟨b, hb, rfl⟩
    obtain ⟨b', hb', e1, e2⟩ := in_other y1 y2 z1 z2 (fun p => (hc p).symm) hb
    exact ⟨b', hb', by rw [e1, e2]⟩

end Go.Proofs.YtpfafhgllabhbaaDoor.Kit

/-
  OWN TEXT. What the document's answer takes of a zone is what the code takes: plain mathematics.
-/
namespace Go.Proofs.YtpfafhgllabhbaaDoor.Kit

/-- The first of an order and a type. -/
def lowF (l : List Bk) (o t : Int) : Option Bk := l.find? (isT o t)

/-- The first that fits, orders rising. -/
def upB (l : List Bk) (t : Int) : Nat → Int → Option Bk
  | 0, _ => none
  | n + 1, o => match lowF l o t with | some b => some b | none => upB l t n (o + 1)
/-- The first that fits, orders falling, of one type or the other. -/
def dnB (l : List Bk) (u v o : Int) : Nat → Option Bk
  | 0 => none
  | n + 1 => match lowF l (o + n) u with | some b => some b | none => match lowF l (o + n) v with | some b => some b | none => dnB l u v o n

theorem lowF_fidx (l : List Bk) (o t : Int) : lowF l o t = if 0 ≤ fidx (isT o t) l then some (l.getD (fidx (isT o t) l).toNat .zero) else none := find_fidx _ _

theorem upB_up (l : List Bk) (t : Int) : ∀ (n : Nat) (o : Int), upB l t n o = if 0 ≤ upI l t n o then some (l.getD (upI l t n o).toNat .zero) else none := by
  intro n
  induction n with
  | zero => intro o; rfl
  | succ n ih =>
    intro o
    unfold upB upI
    rw [lowF_fidx]
    by_cases h : 0 ≤ fidx (isT o t) l
    · simp only [if_pos h]
    · simp only [if_neg h]
      exact ih (o + 1)

theorem dnB_dn (l : List Bk) (u v o : Int) : ∀ (n : Nat), dnB l u v o n = if 0 ≤ dnI l u v o n then some (l.getD (dnI l u v o n).toNat .zero) else none := by
  intro n
  induction n with
  | zero => rfl
  | succ n ih =>
    unfold dnB dnI
    rw [lowF_fidx, lowF_fidx]
    by_cases h : 0 ≤ fidx (isT (o + n) u) l
    · simp only [if_pos h]
    · simp only [if_neg h]
      by_cases h' : 0 ≤ fidx (isT (o + n) v) l
      · simp only [if_pos h']
      · simp only [if_neg h']
        exact ih

/-- Which block is taken. -/
theorem pick_eq (l : List Bk) (o t : Int) : (match upB l t (5 - o).toNat o with | some b => some b | none => dnB l (other1 t) (other2 t) o (5 - o).toNat) = if 0 ≤ chooseI l o t then some (l.getD (chooseI l o t).toNat .zero) else none := by
  rw [upB_up, dnB_dn]
  unfold chooseI
  by_cases h : 0 ≤ upI l t (5 - o).toNat o
  · simp only [if_pos h]
  · simp only [if_neg h]

theorem lowF_in {l : List Bk} {o t : Int} {b : Bk} (h : lowF l o t = some b) : b ∈ l ∧ b.o = o ∧ b.t = t := by
  have h1 := List.find?_some h
  have h2 := List.mem_of_find?_eq_some h
  exact ⟨h2, of_decide_eq_true h1⟩
theorem upB_in {l : List Bk} {t : Int} : ∀ {n : Nat} {o : Int} {b : Bk}, upB l t n o = some b → b ∈ l ∧ b.t = t ∧ o ≤ b.o := by
  intro n
  induction n with
  | zero => intro o b h; cases h
  | succ n ih =>
    intro o b h
    unfold upB at h
    split at h
    · rename_i b' hb
      cases h
      obtain ⟨h1, h2, h3⟩ := lowF_in hb
      exact ⟨h1, h3, by omega⟩
    · obtain ⟨h1, h2, h3⟩ := ih h
      exact ⟨h1, h2, by omega⟩

/-- What the answer makes of a free block, where groups are stolen. -/
def retypeB (first last t : Int) (x : Bk) : Bk := if (first ≤ x.a ∧ x.a ≤ last + 7) ∧ x.a + pw x.o ≤ last + 8 then ⟨x.a, x.o, t⟩ else x

theorem retype_eq {z : Zn} (h : ZMay z) {b : Bk} (hb : b ∈ z.free) (t : Int) {x : Bk} (hx : x ∈ z.free) :
    retypeB (b.a / 8 * 8) ((b.a + pw b.o - 1) / 8 * 8) t x = stealB z.f (grpF z b) (grpL z b) t x := by
  obtain ⟨hin, hA⟩ := free_iff.1 h.free
  obtain ⟨⟨⟨b0, b4⟩, ba1, ba2, ba3⟩, _⟩ := hin b hb
  obtain ⟨⟨⟨x0, x4⟩, xa1, xa2, xa3⟩, _⟩ := hin x hx
  obtain ⟨n1, n2, n3, n4, n5⟩ := h.new
  have hap : x.a ≠ b.a → x.a + pw x.o ≤ b.a ∨ b.a + pw b.o ≤ x.a := fun hne => by
    rcases Int.lt_or_gt_of_ne hne with g | g
    · exact .inl (ahead_two hA hx hb g).1
    · exact .inr (ahead_two hA hb hx g).1
  have hsame : x.a = b.a → x.o = b.o := fun e => by
    have := same_of hA hx hb (by omega) (by have := pw_pos b.o; omega)
    rw [this]
  unfold retypeB stealB grpF grpL
  have key : ((b.a / 8 * 8 ≤ x.a ∧ x.a ≤ (b.a + pw b.o - 1) / 8 * 8 + 7) ∧ x.a + pw x.o ≤ (b.a + pw b.o - 1) / 8 * 8 + 8) ↔ ((b.a - z.f) / 8 ≤ (x.a - z.f) / 8 ∧ (x.a - z.f) / 8 ≤ (b.a + pw b.o - 1 - z.f) / 8) := by
    generalize x.a = xa at *
    generalize b.a = ba at *
    generalize z.f = f at *
    rcases ord_cases (o := b.o) ⟨b0, b4⟩ with ⟨q, e⟩ | ⟨q, e⟩ | ⟨q, e⟩ | ⟨q, e⟩ | ⟨q, e⟩ <;> rw [e] at ba3 hap ⊢ <;>
      rcases ord_cases (o := x.o) ⟨x0, x4⟩ with ⟨r, e'⟩ | ⟨r, e'⟩ | ⟨r, e'⟩ | ⟨r, e'⟩ | ⟨r, e'⟩ <;> rw [e'] at xa3 hap ⊢ <;>
      constructor <;> intro g <;> by_cases hs : xa = ba <;> first | (have := hsame hs; omega) | (have := hap hs; omega)
  by_cases c : ((b.a / 8 * 8 ≤ x.a ∧ x.a ≤ (b.a + pw b.o - 1) / 8 * 8 + 7) ∧ x.a + pw x.o ≤ (b.a + pw b.o - 1) / 8 * 8 + 8)
  · rw [if_pos c, if_pos (key.1 c)]
  · rw [if_neg c, if_neg (fun g => c (key.2 g))]

end Go.Proofs.YtpfafhgllabhbaaDoor.Kit

/-
  OWN TEXT. What the document's answer TakenOf holds in its variables.
-/
namespace Go.Proofs.YtpfafhgllabhbaaDoor
open Go Go.RowKit Go.Proofs.YtpfafhgllabhbaaDoor.Kit

/-- The variables of TakenOf: what came in, the result's, the copy with its two rows, the block. -/
structure TkI (w : World) (ob bb : Nat) (f t : Int) (fo : Option Addr) (fn fc : Nat) (to_ : Option Addr) (tn tc : Nat) (free : List Bk) (types : List Int) (q : Bk) (W : World) : Prop where
  b : Below w.heap.size w W
  zin : W.cell? ⟨w.heap.size, 0, none⟩ = some (.int .i64 f)
  res : Res4 W (w.heap.size + 1)
  box : ZBox W ob (.int .i64 f) (.int .i64 t) (.slice fo fn fc) (.slice to_ tn tc)
  own : W.ownsRow (w.heap.size + 2) 42 3 (.slice fo fn fc) fn (bvals free)
  typ : W.ownsRow (w.heap.size + 2) 3 1 (.slice to_ tn tc) tn (vals types)
  tb : TBox W bb q
  ob1 : w.heap.size + 2 ≤ ob
  bb1 : w.heap.size + 2 ≤ bb
  obb : ob ≠ bb
  a1 : ∀ a, fo = some a → a.block ≠ ob ∧ a.block ≠ bb
  a2 : ∀ a, to_ = some a → a.block ≠ ob ∧ a.block ≠ bb
  a3 : ∀ a a', fo = some a → to_ = some a' → a.block ≠ a'.block

section
variable {w : World} {ob bb : Nat} {f t : Int} {fo : Option Addr} {fn fc : Nat} {to_ : Option Addr} {tn tc : Nat} {free : List Bk} {types : List Int} {q : Bk} {W : World}

theorem TkI.below {W' : World} (h : TkI w ob bb f t fo fn fc to_ tn tc free types q W) (hb : Below W.heap.size W W') : TkI w ob bb f t fo fn fc to_ tn tc free types q W' :=
  ⟨h.b.trans (hb.mono h.b.size), keep h.zin hb, h.res.below hb, h.box.below hb, owns_below h.own hb (Nat.le_refl _), owns_below h.typ hb (Nat.le_refl _), h.tb.below hb, h.ob1, h.bb1, h.obb, h.a1, h.a2, h.a3⟩

/-- A row that the call owns, where another block was written. -/
theorem row_ne {w w' : World} {base : Nat} {ao : Option Addr} {m cap c : Nat} {xs : List Value} {e : TypeId} {k : Nat} (h : w.ownsRow base e k (.slice ao m cap) m xs) (hb : But c w w') (hc : ∀ a, ao = some a → a.block ≠ c) : w'.ownsRow base e k (.slice ao m cap) m xs := by
  refine ⟨h.1, ?_⟩
  rcases h.2 with hn | ⟨g, cap', cur, e1, hbg, hg, rest⟩
  · exact .inl hn
  · have hne : g ≠ c := by
      simp only [Value.slice.injEq] at e1
      exact hc _ e1.1
    exact .inr ⟨g, cap', cur, e1, hbg, (hb.block g (Array.getElem?_eq_some_iff.1 hg).1 hne).trans hg, rest⟩

/-- The block is another one. -/
theorem TkI.setB (h : TkI w ob bb f t fo fn fc to_ tn tc free types q W) (r : Bk) : TkI w ob bb f t fo fn fc to_ tn tc free types r (((W.setCell ⟨bb, 0, none⟩ (.int .i64 r.a)).setCell ⟨bb, 1, none⟩ (.int .i64 r.o)).setCell ⟨bb, 2, none⟩ (.int .i64 r.t)) := by
  have hbt := but3 W bb (.int .i64 r.a) (.int .i64 r.o) (.int .i64 r.t)
  have h1 := h.bb1
  exact ⟨h.b.trans (hbt.below (by omega) h.b.size), hbt.cell h.zin (by omega), h.res.but hbt (by omega), h.box.but hbt h.obb, row_ne h.own hbt (fun a ha => (h.a1 a ha).2), row_ne h.typ hbt (fun a ha => (h.a2 a ha).2), h.tb.set r, h.ob1, h.bb1, h.obb, h.a1, h.a2, h.a3⟩

/-- The copy's free blocks are others, in a row of their own. -/
theorem TkI.setFree {fo' : Option Addr} {fn' fc' : Nat} {free' : List Bk} (h : TkI w ob bb f t fo fn fc to_ tn tc free types q W) (ho : W.ownsRow (w.heap.size + 2) 42 3 (.slice fo' fn' fc') fn' (bvals free')) (h1 : ∀ a, fo' = some a → a.block ≠ ob ∧ a.block ≠ bb) (h3 : ∀ a a', fo' = some a → to_ = some a' → a.block ≠ a'.block) :
    TkI w ob bb f t fo' fn' fc' to_ tn tc free' types q (W.setCell ⟨ob, 2, none⟩ (.slice fo' fn' fc')) := by
  have hbt : But ob W (W.setCell ⟨ob, 2, none⟩ (.slice fo' fn' fc')) := (But.refl _ _).setCell _
  have g1 := h.ob1
  exact ⟨h.b.trans (hbt.below (by omega) h.b.size), hbt.cell h.zin (by omega), h.res.but hbt (by omega), h.box.set2 _, row_ne ho hbt (fun a ha => (h1 a ha).1), row_ne h.typ hbt (fun a ha => (h.a2 a ha).1), h.tb.but hbt (Ne.symm h.obb), h.ob1, h.bb1, h.obb, h1, h.a2, h3⟩
end

theorem rise_of {z : Zn} (h : ZMay z) : ∀ i j, i < j → j < z.free.length → (z.free.getD i .zero).a ≤ (z.free.getD j .zero).a := fun i j hij hj => by
  have hI := inc_of_free h.free
  have := List.pairwise_iff_getElem.1 hI i j (by omega) hj hij
  rw [List.getD_eq_getElem?_getD, List.getD_eq_getElem?_getD, List.getElem?_eq_getElem (by omega), List.getElem?_eq_getElem hj]
  exact Int.le_of_lt this

end Go.Proofs.YtpfafhgllabhbaaDoor

/-
  OWN TEXT. What the searches of the document's answer TakenOf have found.
-/
namespace Go.Proofs.YtpfafhgllabhbaaDoor
open Go Go.RowKit Go.Proofs.YtpfafhgllabhbaaDoor.Kit

/-- What the search with rising orders has found. -/
def UpF (l : List Bk) (t o : Int) (fd : Bool) (O : Int) (q : Bk) : Prop := if fd = true then upB l t (5 - o).toNat o = some q else upB l t (5 - o).toNat o = upB l t (5 - O).toNat O
theorem upF_next {l : List Bk} {t o O : Int} {q q' : Bk} {fd : Bool} (h : UpF l t o false O q) (h4 : O ≤ 4) (hf : FoundB l O t fd q') : UpF l t o fd (O + 1) q' := by
  unfold UpF FoundB at *
  simp only [Bool.false_eq_true, if_false] at h
  have e : (5 - O).toNat = (5 - (O + 1)).toNat + 1 := by omega
  rw [e] at h
  cases fd with
  | true =>
    simp only [if_true] at hf ⊢
    rw [h]
    unfold upB
    have : lowF l O t = some q' := hf
    rw [this]
  | false =>
    simp only [Bool.false_eq_true, if_false] at hf ⊢
    rw [h]
    show upB l t ((5 - (O + 1)).toNat + 1) O = _
    conv => lhs; unfold upB
    have : lowF l O t = none := hf.1
    rw [this]

/-- What the search of one order has found behind k types. -/
def InF (l : List Bk) (u v O : Int) (fd : Bool) (k : Nat) (q : Bk) : Prop :=
  if fd = true then (lowF l O u = some q ∨ (lowF l O u = none ∧ lowF l O v = some q)) else (1 ≤ k → lowF l O u = none) ∧ (2 ≤ k → lowF l O v = none)
theorem inF_0 {l : List Bk} {u v O : Int} {q q' : Bk} {fd : Bool} (hf : FoundB l O u fd q') (_h : InF l u v O false 0 q) : InF l u v O fd 1 q' := by
  unfold InF FoundB at *
  cases fd with
  | true => exact .inl hf
  | false => exact ⟨fun _ => hf.1, fun g => by omega⟩
theorem inF_1 {l : List Bk} {u v O : Int} {q q' : Bk} {fd : Bool} (hf : FoundB l O v fd q') (h : InF l u v O false 1 q) : InF l u v O fd 2 q' := by
  unfold InF FoundB at *
  simp only [Bool.false_eq_true, if_false] at h
  cases fd with
  | true => exact .inr ⟨h.1 (by omega), hf⟩
  | false => exact ⟨fun _ => h.1 (by omega), fun _ => hf.1⟩

/-- What the search with falling orders has found. -/
def DnF (l : List Bk) (u v o : Int) (fd : Bool) (O : Int) (q : Bk) : Prop := if fd = true then dnB l u v o (5 - o).toNat = some q else dnB l u v o (5 - o).toNat = dnB l u v o (O + 1 - o).toNat
theorem dnF_next {l : List Bk} {u v o O : Int} {q q' : Bk} {fd : Bool} {k : Nat} (h : DnF l u v o false O q) (h1 : o ≤ O) (hk : fd = false → k = 2) (hf : InF l u v O fd k q') : DnF l u v o fd (O - 1) q' := by
  unfold DnF InF at *
  simp only [Bool.false_eq_true, if_false] at h
  have e : (O + 1 - o).toNat = (O - o).toNat + 1 := by omega
  have e2 : o + ((O - o).toNat : Int) = O := by omega
  have e3 : (O - 1 + 1 - o).toNat = (O - o).toNat := by omega
  rw [e] at h
  cases fd with
  | true =>
    simp only [if_true] at hf ⊢
    rw [h]
    unfold dnB
    rw [e2]
    rcases hf with g | ⟨g1, g2⟩
    · rw [g]
    · rw [g1, g2]
  | false =>
    simp only [Bool.false_eq_true, if_false] at hf ⊢
    have hk2 := hk rfl
    rw [h, e3]
    conv => lhs; unfold dnB
    rw [e2, hf.1 (by omega), hf.2 (by omega)]

end Go.Proofs.YtpfafhgllabhbaaDoor

/-
  OWN TEXT. The variables of TakenOf, where a type is written.
-/
namespace Go.Proofs.YtpfafhgllabhbaaDoor
open Go Go.RowKit Go.Proofs.YtpfafhgllabhbaaDoor.Kit

section
variable {w : World} {ob bb : Nat} {f t : Int} {fo : Option Addr} {fn fc : Nat} {to_ : Option Addr} {tn tc : Nat} {free : List Bk} {types : List Int} {q : Bk} {W : World}

/-- The type of a group is written. -/
theorem TkI.setTy {g : Nat} (h : TkI w ob bb f t fo fn fc (some ⟨g, 0, none⟩) tn tc free types q W) {c : Nat} (hc : c < tn) (x : Int) :
    (∃ v, W.cell? ⟨g, c, none⟩ = some v) ∧ W.frozen? ⟨g, c, none⟩ = false ∧ TkI w ob bb f t fo fn fc (some ⟨g, 0, none⟩) tn tc free (types.set c x) q (W.setCell ⟨g, c, none⟩ (.int .i64 x)) := by
  obtain ⟨c1, c2, o⟩ := owns_store h.typ c hc x
  have hbt : But g W (W.setCell ⟨g, c, none⟩ (.int .i64 x)) := (But.refl _ _).setCell _
  have hg := owns_fresh h.typ _ rfl
  dsimp only at hg
  obtain ⟨n1, n2⟩ := h.a2 _ rfl
  dsimp only at n1 n2
  exact ⟨⟨_, c1⟩, c2, h.b.trans (hbt.below (by omega) h.b.size), hbt.cell h.zin (by omega), h.res.but hbt (by omega), h.box.but hbt (Ne.symm n1), row_ne h.own hbt (fun a ha => h.a3 a _ ha rfl), o, h.tb.but hbt (Ne.symm n2), h.ob1, h.bb1, h.obb, h.a1, h.a2, h.a3⟩

/-- The type of a free block is written. -/
theorem TkI.setBt {g : Nat} (h : TkI w ob bb f t (some ⟨g, 0, none⟩) fn fc to_ tn tc free types q W) {i : Nat} (hi : i < fn) (x : Int) :
    (∃ v, W.cell? ⟨g, i * 3 + 2, none⟩ = some v) ∧ W.frozen? ⟨g, i * 3 + 2, none⟩ = false ∧ TkI w ob bb f t (some ⟨g, 0, none⟩) fn fc to_ tn tc (free.set i ⟨(free.getD i .zero).a, (free.getD i .zero).o, x⟩) types q (W.setCell ⟨g, i * 3 + 2, none⟩ (.int .i64 x)) := by
  obtain ⟨c1, c2, o⟩ := own_type h.own hi x
  have hbt : But g W (W.setCell ⟨g, i * 3 + 2, none⟩ (.int .i64 x)) := (But.refl _ _).setCell _
  have hg := owns_fresh h.own _ rfl
  dsimp only at hg
  obtain ⟨n1, n2⟩ := h.a1 _ rfl
  dsimp only at n1 n2
  exact ⟨⟨_, c1⟩, c2, h.b.trans (hbt.below (by omega) h.b.size), hbt.cell h.zin (by omega), h.res.but hbt (by omega), h.box.but hbt (Ne.symm n1), o, row_ne h.typ hbt (fun a ha => Ne.symm (h.a3 _ a rfl ha)), h.tb.but hbt (Ne.symm n2), h.ob1, h.bb1, h.obb, h.a1, h.a2, h.a3⟩

/-- The block's own type is written. -/
theorem TkI.setQt (h : TkI w ob bb f t fo fn fc to_ tn tc free types q W) (x : Int) : TkI w ob bb f t fo fn fc to_ tn tc free types ⟨q.a, q.o, x⟩ (W.setCell ⟨bb, 2, none⟩ (.int .i64 x)) := by
  have hbt : But bb W (W.setCell ⟨bb, 2, none⟩ (.int .i64 x)) := (But.refl _ _).setCell _
  have h1 := h.bb1
  have o : ∀ j : Nat, j ≠ 2 → (W.setCell ⟨bb, 2, none⟩ (.int .i64 x)).cell? ⟨bb, j, none⟩ = W.cell? ⟨bb, j, none⟩ := fun j hj => World.cell?_setCell_other _ _ _ _ (by intro g; cases g; exact hj rfl)
  exact ⟨h.b.trans (hbt.below (by omega) h.b.size), hbt.cell h.zin (by omega), h.res.but hbt (by omega), h.box.but hbt h.obb, row_ne h.own hbt (fun a ha => (h.a1 a ha).2), row_ne h.typ hbt (fun a ha => (h.a2 a ha).2), ⟨(o 0 (by decide)).trans h.tb.c0, (o 1 (by decide)).trans h.tb.c1, World.cell?_setCell_same _ _ _ h.tb.c2, by simpa using h.tb.z0, by simpa using h.tb.z1, by simpa using h.tb.z2⟩, h.ob1, h.bb1, h.obb, h.a1, h.a2, h.a3⟩
end

/-- What the answer holds at the end, by what it has found: the code's take. -/
theorem taken_eq {z : Zn} (h : ZMay z) {o t : Int} (ho : ordOk o) {i : Nat} (hC : chooseI z.free o t = i) {q0 q : Bk} {fr : List Bk} {ty : List Int} (hq : z.free.getD i .zero = q0)
    (hs : (steals q0 t ∧ fr = (stolenZ z q0 t).free ∧ ty = (stolenZ z q0 t).types ∧ q = ⟨q0.a, q0.o, t⟩) ∨ (¬ steals q0 t ∧ fr = z.free ∧ ty = z.types ∧ q = q0)) :
    takeZ z o t i = ⟨z.f, z.t, putH q.a q.t o (q.o - o).toNat (dropB fr q.a q.o), ty⟩ ∧ q.a = q0.a ∧ o ≤ q.o := by
  obtain ⟨j, e, hj, hob⟩ := choose_in (l := z.free) (o := o) (t := t) (by omega)
  obtain rfl : j = i := by omega
  have hA := (free_iff.1 h.free).2
  have tail : ∀ (l : List Bk), l.Pairwise Ahead → ∀ b, j < l.length → l.getD j .zero = b → o ≤ b.o → putH b.a b.t o (b.o - o).toNat (dropB l b.a b.o) = l.take j ++ (halvesL b.a b.t o (b.o - o).toNat ++ l.drop (j + 1)) := fun l hl b hjl hb hbo => by
    have hc := cut_at l hjl
    rw [hb] at hc
    have := take_place (l.take j) (l.drop (j + 1)) b b.t o ho.1 hbo (by rw [← hc]; exact hl.imp fun g => g.1)
    rw [← hc] at this
    rw [this, List.append_assoc]
  rw [hq] at hob
  rcases hs with ⟨h1, rfl, rfl, rfl⟩ | ⟨h1, rfl, rfl, rfl⟩
  · refine ⟨?_, rfl, hob⟩
    unfold takeZ
    dsimp only
    rw [hq, if_pos h1]
    have hget : (stolenZ z q0 t).free.getD j .zero = ⟨q0.a, q0.o, t⟩ := by
      unfold stolenZ
      dsimp only
      rw [map_getD _ hj, hq, stolen_self]
    rw [tail (stolenZ z q0 t).free (steal_ahead _ _ _ _ hA) ⟨q0.a, q0.o, t⟩ (by unfold stolenZ; simpa using hj) hget hob]
  · refine ⟨?_, rfl, hob⟩
    unfold takeZ
    dsimp only
    rw [hq, if_neg h1, tail z.free hA q hj hq hob]

end Go.Proofs.YtpfafhgllabhbaaDoor
