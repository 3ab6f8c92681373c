/-
  OWN TEXTS, bundled: ZcBack, ZMayB, ZGivP, ZcGive, RefI, RefZp, RefZn, RefZa.
-/
import Derived.Test.YtffhpjjioefaeaeBuddyGivesPart5
import Derived.Test.YtffhpjjioefaeaeBuddyGivesPart6
import Derived.Test.YtffhpjjioefaeaeBuddyGivesPart2
import Derived.Test.YtffhpjjioefaeaeBuddyGivesPart4
import Derived.Test.YtffhpjjioefaeaeBuddyGivesPart1

/-
  OWN TEXT. Contracts of the code: buddy.Back.
-/
namespace Go.Proofs.Ytffhpjjioefaeae
open Go Go.RowKit Go.Proofs.Ytffhpjjioefaeae.Kit

set_option maxHeartbeats 1000000 in
theorem zBack_no (w : World) (fo : Option Addr) (fn fc : Nat) (to_ : Option Addr) (tn tc : Nat) (z : Zn) (a o : Int) (h : ZnAt w fo fn to_ tn z) (hf : ZFits z) (hM : ¬ ZMay z) :
    Calls Try.prog 12 #[.agg #[.int .i64 z.f, .int .i64 z.t, .slice fo fn fc, .slice to_ tn tc], .int .i64 a, .int .i64 o] w fun e w' => RetNone 8 e ∧ Below w.heap.size w w' := by
  have I0 := cbI_first w fo fn fc to_ tn tc z h
  have c0 := I0.box.c0
  have c1 := I0.box.c1
  have c2 := I0.box.c2
  have c3 := I0.box.c3
  clear h
  go_enter Try.func12, Try.ntmps12
  go_wp2_with fail
  go_at_call 17
  refine (zCheck_no _ fo fn fc to_ tn tc z I0.zn hf hM).mono ?_
  rintro e w1 ⟨rfl, hb⟩
  have I1 := I0.step hb
  have R1 := I1.res
  obtain ⟨⟨x0, d0⟩, ⟨x1, d1⟩, ⟨x2, d2⟩, ⟨x3, d3⟩, z0, z1, z2, z3⟩ := id R1
  have hB := I1.b
  have hs := I1.size
  clear I0 I1 hb hM hf c0 c1 c2 c3
  go_wp2
  obtain ⟨k0, k1, k2, k3⟩ := res4 R1 (.int .i64 0) (.int .i64 0) (.slice none 0 0) (.slice none 0 0)
  have hbt := but4 w1 (w.heap.size + 1) (.int .i64 0) (.int .i64 0) (.slice none 0 0) (.slice none 0 0)
  exact bodyPost_ret (v := .tuple #[.agg #[.int .i64 0, .int .i64 0, .slice none 0 0, .slice none 0 0], .int .i64 8]) (by simp [results, Try.results12, go_sem, k0, k1, k2, k3]) rfl ⟨rfl, hB.trans (hbt.below (by omega) (by omega))⟩

set_option maxHeartbeats 1000000 in
theorem zBack_range (w : World) (fo : Option Addr) (fn fc : Nat) (to_ : Option Addr) (tn tc : Nat) (z : Zn) (a o : Int) (h : ZnAt w fo fn to_ tn z) (_wa : (Lit.int .i64 a).wf = true) (_wo : (Lit.int .i64 o).wf = true) (hM : ZMay z) (hbk : ¬ blkIn z.f z.t a o) :
    Calls Try.prog 12 #[.agg #[.int .i64 z.f, .int .i64 z.t, .slice fo fn fc, .slice to_ tn tc], .int .i64 a, .int .i64 o] w fun e w' => RetNone 1 e ∧ Below w.heap.size w w' := by
  have I0 := cbI_first w fo fn fc to_ tn tc z h
  have c0 := I0.box.c0
  have c1 := I0.box.c1
  have c2 := I0.box.c2
  have c3 := I0.box.c3
  have hB2 : Hid (blkB z.f z.t a o = false) := by
    show _ = _
    cases hb : blkB z.f z.t a o with
    | false => rfl
    | true => exact absurd ((blkB_iff z.f z.t a o).1 hb) hbk
  clear h hbk
  go_enter Try.func12, Try.ntmps12
  go_wp2_with fail
  go_at_call 17
  refine (zCheck_ok _ fo fn fc to_ tn tc z I0.zn hM).mono ?_
  rintro e w1 ⟨rfl, hb⟩
  have I1 := I0.step hb
  clear I0 hb c0 c1 c2 c3
  have c0 := I1.box.c0
  have c1 := I1.box.c1
  have c2 := I1.box.c2
  have c3 := I1.box.c3
  go_wp2_with fail
  go_at_call 25
  refine (blkMay_any _ z.f z.t fo to_ fn fc tn tc a o hM.new).mono ?_
  rintro e w2 ⟨rfl, hb2⟩
  rw [hB2.out]
  have I2 := I1.step hb2
  have R1 := I2.res
  obtain ⟨⟨x0, d0⟩, ⟨x1, d1⟩, ⟨x2, d2⟩, ⟨x3, d3⟩, z0, z1, z2, z3⟩ := id R1
  have hB := I2.b
  have hs := I2.size
  clear I1 I2 hb2 hM c0 c1 c2 c3
  go_wp2
  obtain ⟨k0, k1, k2, k3⟩ := res4 R1 (.int .i64 0) (.int .i64 0) (.slice none 0 0) (.slice none 0 0)
  have hbt := but4 w2 (w.heap.size + 1) (.int .i64 0) (.int .i64 0) (.slice none 0 0) (.slice none 0 0)
  exact bodyPost_ret (v := .tuple #[.agg #[.int .i64 0, .int .i64 0, .slice none 0 0, .slice none 0 0], .int .i64 1]) (by simp [results, Try.results12, go_sem, k0, k1, k2, k3]) rfl ⟨rfl, hB.trans (hbt.below (by omega) (by omega))⟩

set_option maxHeartbeats 2000000 in
theorem zBack_twice (w : World) (fo : Option Addr) (fn fc : Nat) (to_ : Option Addr) (tn tc : Nat) (z : Zn) (a o : Int) (h : ZnAt w fo fn to_ tn z) (hM : ZMay z) (hA : blkIn z.f z.t a o) (hv : ovlP z.free a o) :
    Calls Try.prog 12 #[.agg #[.int .i64 z.f, .int .i64 z.t, .slice fo fn fc, .slice to_ tn tc], .int .i64 a, .int .i64 o] w fun e w' => RetNone 5 e ∧ Below w.heap.size w w' := by
  have I0 := cbI_first w fo fn fc to_ tn tc z h
  have c0 := I0.box.c0
  have c1 := I0.box.c1
  have c2 := I0.box.c2
  have c3 := I0.box.c3
  have hB2 : Hid (blkB z.f z.t a o = true) := (blkB_iff z.f z.t a o).2 hA
  clear h
  go_enter Try.func12, Try.ntmps12
  go_wp2_with fail
  go_at_call 17
  refine (zCheck_ok _ fo fn fc to_ tn tc z I0.zn hM).mono ?_
  rintro e w1 ⟨rfl, hb⟩
  have I1 := I0.step hb
  clear I0 hb c0 c1 c2 c3
  have c0 := I1.box.c0
  have c1 := I1.box.c1
  have c2 := I1.box.c2
  have c3 := I1.box.c3
  go_wp2_with fail
  go_at_call 25
  refine (blkMay_any _ z.f z.t fo to_ fn fc tn tc a o hM.new).mono ?_
  rintro e w2 ⟨rfl, hb2⟩
  rw [hB2.out]
  have I2 := I1.step hb2
  clear I1 hb2 c0 c1 c2 c3
  have c0 := I2.box.c0
  have c1 := I2.box.c1
  have c2 := I2.box.c2
  have c3 := I2.box.c3
  go_wp2_with fail
  go_at_call 26
  refine (zCopy_own _ fo fn fc to_ tn tc z I2.zn).mono ?_
  rintro e w3 ⟨g, k, rfl, o1, o2, hgk, hb3⟩
  have I3 := I2.step hb3
  have Z4 := zo_new o1 o2 hgk
  have hbx := below_box w3 (.cells #[.int .i64 z.f, .int .i64 z.t, .slice (some ⟨g, 0, none⟩) fn fn, .slice (some ⟨k, 0, none⟩) tn tn] 25)
  have I4 := I3.step hbx
  have HP := put_twice _ _ w3.heap.size g fn fn k tn tn z a o Z4 hM hA hv
  clear I2 I3 hb3 c0 c1 c2 c3 o1 o2 hbx
  go_wp2_with fail
  go_at_call 27
  refine HP.mono ?_
  rintro e w5 ⟨rfl, hb5⟩
  have I5 := I4.step hb5
  have R1 := I5.res
  obtain ⟨⟨x0, d0⟩, ⟨x1, d1⟩, ⟨x2, d2⟩, ⟨x3, d3⟩, z0, z1, z2, z3⟩ := id R1
  have hB := I5.b
  have hs := I5.size
  clear I4 I5 hb5 hM HP Z4
  go_wp2
  obtain ⟨k0, k1, k2, k3⟩ := res4 R1 (.int .i64 0) (.int .i64 0) (.slice none 0 0) (.slice none 0 0)
  have hbt := but4 w5 (w.heap.size + 1) (.int .i64 0) (.int .i64 0) (.slice none 0 0) (.slice none 0 0)
  exact bodyPost_ret (v := .tuple #[.agg #[.int .i64 0, .int .i64 0, .slice none 0 0, .slice none 0 0], .int .i64 5]) (by simp [results, Try.results12, go_sem, k0, k1, k2, k3]) rfl ⟨rfl, hB.trans (hbt.below (by omega) (by omega))⟩

theorem backGo_len (n : Nat) (l : List Bk) (a o : Int) : (backGo n l a o).1.length ≤ l.length := by
  induction n generalizing l a o with
  | zero => exact Nat.le_refl _
  | succ n ih =>
    unfold backGo
    split
    · exact Nat.le_trans (ih _ _ _) (dropB_len _ _ _)
    · exact Nat.le_refl _
theorem backZ_len (z : Zn) (a o : Int) : (backZ z a o).free.length ≤ z.free.length + 1 := by
  show (addB _ _).length ≤ _
  rw [addB_len]
  have := backGo_len (4 - o).toNat z.free a o
  omega

set_option maxHeartbeats 2000000 in
theorem zBack_ok (w : World) (fo : Option Addr) (fn fc : Nat) (to_ : Option Addr) (tn tc : Nat) (z : Zn) (a o : Int) (h : ZnAt w fo fn to_ tn z) (hM : ZMay z) (hA : blkIn z.f z.t a o) (hv : ¬ ovlP z.free a o) :
    Calls Try.prog 12 #[.agg #[.int .i64 z.f, .int .i64 z.t, .slice fo fn fc, .slice to_ tn tc], .int .i64 a, .int .i64 o] w fun e w' => RetZone w.heap.size w' (backZ z a o) e ∧ Below w.heap.size w w' := by
  have I0 := cbI_first w fo fn fc to_ tn tc z h
  have c0 := I0.box.c0
  have c1 := I0.box.c1
  have c2 := I0.box.c2
  have c3 := I0.box.c3
  have hB2 : Hid (blkB z.f z.t a o = true) := (blkB_iff z.f z.t a o).2 hA
  have htr := h.types.reach
  have hbl := may_len hM
  obtain ⟨Y, hY⟩ : ∃ Y, backZ z a o = Y := ⟨_, rfl⟩
  have hlenB : Y.free.length ≤ 257 := by rw [← hY]; have := backZ_len z a o; omega
  rw [hY]
  have HY : Hid _ := hY
  clear h hY
  go_enter Try.func12, Try.ntmps12
  go_wp2_with fail
  go_at_call 17
  refine (zCheck_ok _ fo fn fc to_ tn tc z I0.zn hM).mono ?_
  rintro e w1 ⟨rfl, hb⟩
  have I1 := I0.step hb
  clear I0 hb c0 c1 c2 c3
  have c0 := I1.box.c0
  have c1 := I1.box.c1
  have c2 := I1.box.c2
  have c3 := I1.box.c3
  go_wp2_with fail
  go_at_call 25
  refine (blkMay_any _ z.f z.t fo to_ fn fc tn tc a o hM.new).mono ?_
  rintro e w2 ⟨rfl, hb2⟩
  rw [hB2.out]
  have I2 := I1.step hb2
  clear I1 hb2 c0 c1 c2 c3
  have c0 := I2.box.c0
  have c1 := I2.box.c1
  have c2 := I2.box.c2
  have c3 := I2.box.c3
  go_wp2_with fail
  go_at_call 26
  refine (zCopy_own _ fo fn fc to_ tn tc z I2.zn).mono ?_
  rintro e w3 ⟨g, k, rfl, o1, o2, hgk, hb3⟩
  have I3 := I2.step hb3
  have hf1 := owns_fresh o1 _ rfl
  have hf2 := owns_fresh o2 _ rfl
  have Z4 := zo_new o1 o2 hgk
  have hbx := below_box w3 (.cells #[.int .i64 z.f, .int .i64 z.t, .slice (some ⟨g, 0, none⟩) fn fn, .slice (some ⟨k, 0, none⟩) tn tn] 25)
  have I4 := I3.step hbx
  have hs2 := I2.size
  have hs3 := I3.size
  have HP := put_ok _ _ w3.heap.size g fn fn k tn tn z a o Z4 hM hA hv
  have hgl := Z4.glt
  obtain ⟨W4, hW4⟩ : ∃ W4, w3.alloc (.cells #[.int .i64 z.f, .int .i64 z.t, .slice (some ⟨g, 0, none⟩) fn fn, .slice (some ⟨k, 0, none⟩) tn tn] 25) = W4 := ⟨_, rfl⟩
  rw [hW4] at I4 HP hgl
  have HW4 : Hid _ := hW4
  rw [HY.out] at HP
  dsimp only at hf1 hf2
  clear I2 I3 hb3 c0 c1 c2 c3 o1 o2 hbx Z4 hW4
  go_wp2_with (rw [HW4.out])
  go_at_call 27
  refine HP.mono ?_
  rintro e w5 ⟨rfl, g', n', cap', Z5, hg', hU⟩
  have hs4 := I4.size
  have R1 := hU.res I4.res (by omega) (by omega)
  have hB : Below w.heap.size w w5 := I4.b.trans (hU.below (by omega) (by omega) (by omega))
  obtain ⟨⟨x0, d0⟩, ⟨x1, d1⟩, ⟨x2, d2⟩, ⟨x3, d3⟩, z0, z1, z2, z3⟩ := id R1
  have y0 := Z5.box.c0
  have y1 := Z5.box.c1
  have y2 := Z5.box.c2
  have y3 := Z5.box.c3
  have hs5 := hU.size
  have hgB : w.heap.size + 2 ≤ g' := by rcases hg' with e | e <;> omega
  have B7 := blks_own Z5.own (by have := bowns_len Z5.own; omega)
  have N7 := nums_of_owns Z5.typ htr
  clear I4 HP HW4
  go_wp2
  obtain ⟨k0, k1, k2, k3⟩ := res4 R1 (.int .i64 Y.f) (.int .i64 Y.t) (.slice (some ⟨g', 0, none⟩) n' cap') (.slice (some ⟨k, 0, none⟩) tn tn)
  have hbt := but4 w5 (w.heap.size + 1) (.int .i64 Y.f) (.int .i64 Y.t) (.slice (some ⟨g', 0, none⟩) n' cap') (.slice (some ⟨k, 0, none⟩) tn tn)
  exact bodyPost_ret (v := .tuple #[.agg #[.int .i64 Y.f, .int .i64 Y.t, .slice (some ⟨g', 0, none⟩) n' cap', .slice (some ⟨k, 0, none⟩) tn tn], .int .i64 0]) (by simp [results, Try.results12, go_sem, k0, k1, k2, k3]) rfl ⟨⟨_, _, _, _, _, _, rfl, hbt.zn ⟨B7, N7⟩ (fun a ha => by cases ha; dsimp only; omega) (fun a ha => by cases ha; dsimp only; omega), fun a ha => by cases ha; dsimp only; omega, fun a ha => by cases ha; dsimp only; omega⟩, hB.trans (hbt.below (by omega) (by omega))⟩

end Go.Proofs.Ytffhpjjioefaeae

/-
  OWN TEXT. A zone that may be stays one when a block comes back: plain mathematics.
-/
namespace Go.Proofs.Ytffhpjjioefaeae.Kit

/-- The first one ends ahead of the second one, and they are not beside each other. -/
def Ahead (p q : Bk) : Prop := p.a + pw p.o ≤ q.a ∧ ¬ besideP p q
/-- Each of them may be in the zone. -/
def AllIn (f t : Int) (l : List Bk) : Prop := ∀ b ∈ l, blkIn f t b.a b.o ∧ typeOk b.t

theorem freeOk_pw {f t lo : Int} {pv : Option Bk} {l : List Bk} (h : FreeOk f t lo pv l) : AllIn f t l ∧ (∀ b ∈ l, lo ≤ b.a) ∧ l.Pairwise Ahead := by
  induction l generalizing lo pv with
  | nil => exact ⟨fun b hb => by simp at hb, fun b hb => by simp at hb, List.Pairwise.nil⟩
  | cons b l ih =>
    obtain ⟨h1, h2, h3, _, h5⟩ := h
    obtain ⟨i1, i2, i3⟩ := ih h5
    have hp := pw_pos b.o
    refine ⟨fun x hx => ?_, fun x hx => ?_, List.Pairwise.cons (fun x hx => ⟨i2 x hx, ?_⟩) i3⟩
    · rcases List.mem_cons.1 hx with rfl | hx
      · exact ⟨h1, h2⟩
      · exact i1 x hx
    · rcases List.mem_cons.1 hx with rfl | hx
      · exact h3
      · have := i2 x hx; omega
    · cases l with
      | nil => simp at hx
      | cons c l =>
        obtain ⟨_, _, k3, k4, _⟩ := h5
        rcases List.mem_cons.1 hx with rfl | hx
        · exact k4 b rfl
        · have := (List.pairwise_cons.1 i3).1 x hx
          rintro ⟨_, e2, e3, _⟩
          have := this.1
          have hc := pw_pos c.o
          rw [← e2] at e3
          omega

theorem freeOk_of {f t lo : Int} {pv : Option Bk} {l : List Bk} (h1 : AllIn f t l) (h2 : ∀ b ∈ l, lo ≤ b.a) (h3 : l.Pairwise Ahead) (h4 : ∀ p, pv = some p → ∀ b ∈ l, ¬ besideP p b) : FreeOk f t lo pv l := by
  induction l generalizing lo pv with
  | nil => trivial
  | cons b l ih =>
    have hb := h1 b (by simp)
    have hp := List.pairwise_cons.1 h3
    exact ⟨hb.1, hb.2, h2 b (by simp), fun p e => h4 p e b (by simp), ih (fun x hx => h1 x (by simp [hx])) (fun x hx => (hp.1 x hx).1) hp.2 (fun p e x hx => by cases e; exact (hp.1 x hx).2)⟩

theorem free_iff {f t : Int} {l : List Bk} : FreeOk f t f none l ↔ AllIn f t l ∧ l.Pairwise Ahead :=
  ⟨fun h => ⟨(freeOk_pw h).1, (freeOk_pw h).2.2⟩, fun ⟨h1, h2⟩ => freeOk_of h1 (fun b hb => (h1 b hb).1.2.1) h2 (fun p e => by cases e)⟩

/-- It has no page in common with any of them. -/
def NoOv (l : List Bk) (a o : Int) : Prop := ∀ b ∈ l, b.a + pw b.o ≤ a ∨ a + pw o ≤ b.a
theorem noOv_of {l : List Bk} {a o : Int} (h : ¬ ovlP l a o) : NoOv l a o := by
  intro b hb
  obtain ⟨i, hi, rfl⟩ := List.getElem_of_mem hb
  by_cases h1 : l[i].a + pw l[i].o ≤ a
  · exact .inl h1
  · by_cases h2 : a + pw o ≤ l[i].a
    · exact .inr h2
    · exact absurd ⟨i, hi, by rw [List.getD_eq_getElem?_getD, List.getElem?_eq_getElem hi]; exact ⟨by simp only [Option.getD_some]; omega, by simp only [Option.getD_some]; omega⟩⟩ h

theorem ahead_or {l : List Bk} (h : l.Pairwise Ahead) {p q : Bk} (hp : p ∈ l) (hq : q ∈ l) (hne : ¬ (p.a = q.a ∧ p.o = q.o)) : Ahead p q ∨ Ahead q p := by
  obtain ⟨i, hi, rfl⟩ := List.getElem_of_mem hp
  obtain ⟨j, hj, rfl⟩ := List.getElem_of_mem hq
  rw [List.pairwise_iff_getElem] at h
  by_cases e : i < j
  · exact .inl (h i j hi hj e)
  · by_cases g : j < i
    · exact .inr (h j i hj hi g)
    · obtain rfl : i = j := by omega
      exact absurd ⟨rfl, rfl⟩ hne

theorem beside_cases {a o : Int} (h0 : 0 ≤ o) (h4 : o < 4) (hm : a % pw o = 0) : pw (o + 1) = 2 * pw o ∧ ((a % pw (o + 1) = 0 ∧ besideA a o = a + pw o) ∨ (¬ a % pw (o + 1) = 0 ∧ besideA a o = a - pw o ∧ a % pw (o + 1) = pw o)) := by
  rcases (show o = 0 ∨ o = 1 ∨ o = 2 ∨ o = 3 by omega) with rfl | rfl | rfl | rfl
  all_goals
    unfold besideA
    simp only [pw_0, pw_1, pw_2, pw_3, pw_4, show (0 : Int) + 1 = 1 from rfl, show (1 : Int) + 1 = 2 from rfl, show (2 : Int) + 1 = 3 from rfl, show (3 : Int) + 1 = 4 from rfl] at hm ⊢
    refine ⟨by omega, ?_⟩
    split
    · exact .inl ⟨by assumption, rfl⟩
    · exact .inr ⟨by assumption, rfl, by omega⟩

/-- What holds of a block that comes back, while it is joined. -/
structure GoI (f t : Int) (l : List Bk) (a o : Int) : Prop where
  all : AllIn f t l
  pw : l.Pairwise Ahead
  blk : blkIn f t a o
  no : NoOv l a o

theorem go_step {f t : Int} {l : List Bk} {a o : Int} (h : GoI f t l a o) (ho : o < 4) (hb : hasB l (besideA a o) o = true) : GoI f t (dropB l (besideA a o) o) (if besideA a o < a then besideA a o else a) (o + 1) := by
  obtain ⟨⟨o0, o4⟩, a1, a2, a3⟩ := h.blk
  have hbi : blkIn f t (besideA a o) o := hasB_in hb (fun b hb => (h.all b hb).1)
  refine ⟨fun b hb => h.all b (dropB_mem hb), List.Pairwise.filter _ h.pw, join_in h.blk hbi ho, fun b hb' => ?_⟩
  have hbl := dropB_mem hb'
  have hnb : isB (besideA a o) o b = false := by
    have := (List.mem_filter.1 hb').2
    simpa using this
  have hno := h.no b hbl
  unfold hasB at hb
  rw [List.any_eq_true] at hb
  obtain ⟨x, hx, hxi⟩ := hb
  obtain ⟨x1, x2⟩ := of_decide_eq_true hxi
  have hor := ahead_or h.pw hbl hx (by rw [x1, x2]; exact of_decide_eq_false hnb)
  have hp := pw_pos b.o
  have hpo := pw_pos o
  obtain ⟨e2, hc⟩ := beside_cases o0 ho a3
  rw [e2]
  unfold Ahead at hor
  rw [x1, x2] at hor
  rcases hc with ⟨_, hc⟩ | ⟨_, hc, _⟩
  · rw [hc] at hor ⊢
    rw [if_neg (by omega)]
    rcases hor with ⟨g, _⟩ | ⟨g, _⟩ <;> omega
  · rw [hc] at hor ⊢
    rw [if_pos (by omega)]
    rcases hor with ⟨g, _⟩ | ⟨g, _⟩ <;> omega

/-- What holds when it is joined. -/
theorem go_all {f t : Int} : ∀ (n : Nat) (l : List Bk) (a o : Int), (4 - o).toNat = n → GoI f t l a o →
    GoI f t (backGo n l a o).1 (backGo n l a o).2.1 (backGo n l a o).2.2 ∧ ((backGo n l a o).2.2 = 4 ∨ hasB (backGo n l a o).1 (besideA (backGo n l a o).2.1 (backGo n l a o).2.2) (backGo n l a o).2.2 = false) := by
  intro n
  induction n with
  | zero =>
    intro l a o hn h
    have := h.blk.1.2
    exact ⟨h, .inl (by show o = 4; omega)⟩
  | succ n ih =>
    intro l a o hn h
    unfold backGo
    by_cases hb : hasB l (besideA a o) o = true
    · rw [if_pos hb]
      exact ih _ _ _ (by omega) (go_step h (by omega) hb)
    · rw [if_neg hb]
      exact ⟨h, .inr (by simpa using hb)⟩

theorem mem_addB {l : List Bk} {b x : Bk} : x ∈ addB l b ↔ x = b ∨ x ∈ l := by
  induction l with
  | nil => simp [addB]
  | cons y l ih =>
    unfold addB
    split
    · simp
    · simp only [List.mem_cons, ih]
      constructor
      · rintro (h | h | h)
        · exact .inr (.inl h)
        · exact .inl h
        · exact .inr (.inr h)
      · rintro (h | h | h)
        · exact .inr (.inl h)
        · exact .inl h
        · exact .inr (.inr h)

theorem addB_pw {l : List Bk} {b : Bk} (h : l.Pairwise Ahead) (hno : NoOv l b.a b.o) (h1 : ∀ x ∈ l, ¬ besideP x b) (h2 : ∀ x ∈ l, ¬ besideP b x) : (addB l b).Pairwise Ahead := by
  have hp := pw_pos b.o
  induction l with
  | nil => exact List.pairwise_singleton _ _
  | cons x l ih =>
    have hx := List.pairwise_cons.1 h
    have hpx := pw_pos x.o
    have hnx := hno x (by simp)
    unfold addB
    split
    · rename_i hg
      refine List.Pairwise.cons (fun y hy => ⟨?_, h2 y hy⟩) h
      have hny := hno y hy
      rcases List.mem_cons.1 hy with rfl | hy'
      · omega
      · have := (hx.1 y hy').1
        have hpy := pw_pos y.o
        omega
    · rename_i hg
      refine List.Pairwise.cons (fun y hy => ?_) (ih hx.2 (fun y hy => hno y (by simp [hy])) (fun y hy => h1 y (by simp [hy])) (fun y hy => h2 y (by simp [hy])))
      rcases mem_addB.1 hy with rfl | hy
      · exact ⟨by omega, h1 x (by simp)⟩
      · exact hx.1 y hy

/-- A ZONE THAT MAY BE stays one when a block comes back. -/
theorem backZ_may {z : Zn} {a o : Int} (h : ZMay z) (hA : blkIn z.f z.t a o) (hv : ¬ ovlP z.free a o) : ZMay (backZ z a o) := by
  obtain ⟨q1, q2⟩ := free_iff.1 h.free
  obtain ⟨G, hl⟩ := go_all (f := z.f) (t := z.t) (4 - o).toNat z.free a o rfl ⟨q1, q2, hA, noOv_of hv⟩
  obtain ⟨R, hR⟩ : ∃ R, backGo (4 - o).toNat z.free a o = R := ⟨_, rfl⟩
  have hz : backZ z a o = ⟨z.f, z.t, addB R.1 ⟨R.2.1, R.2.2, z.types.getD ((R.2.1 - z.f) / 8).toNat 0⟩, z.types⟩ := by unfold backZ; rw [hR]
  rw [hR] at G hl
  obtain ⟨⟨o0, o4⟩, a1, a2, a3⟩ := G.blk
  have hlen := h.len
  have hty : typeOk (z.types.getD ((R.2.1 - z.f) / 8).toNat 0) := h.ty _ (by omega)
  rw [hz]
  refine ⟨h.new, h.len, h.ty, free_iff.2 ⟨fun b hb => ?_, addB_pw G.pw G.no (fun x hx => ?_) (fun x hx => ?_)⟩⟩
  · rcases mem_addB.1 hb with rfl | hb
    · exact ⟨G.blk, hty⟩
    · exact G.all b hb
  · rintro ⟨b1, b2, b3, b4⟩
    dsimp only at b1 b2 b3 b4
    obtain ⟨_, hc⟩ := beside_cases o0 b1 a3
    have hh : besideA R.2.1 R.2.2 = x.a := by
      rcases hc with ⟨g, _⟩ | ⟨_, g, _⟩
      · exfalso
        rw [← b3] at g
        rcases (show R.2.2 = 0 ∨ R.2.2 = 1 ∨ R.2.2 = 2 ∨ R.2.2 = 3 by omega) with e | e | e | e
        all_goals
          rw [e] at g b4
          simp only [pw_0, pw_1, pw_2, pw_3, pw_4, show (0 : Int) + 1 = 1 from rfl, show (1 : Int) + 1 = 2 from rfl, show (2 : Int) + 1 = 3 from rfl, show (3 : Int) + 1 = 4 from rfl] at g b4
          omega
      · omega
    rcases hl with g | g
    · omega
    · rw [hh] at g
      unfold hasB at g
      rw [List.any_eq_false] at g
      exact g x hx (decide_eq_true ⟨rfl, b2⟩)
  · rintro ⟨b1, b2, b3, b4⟩
    dsimp only at b1 b2 b3 b4
    rw [← b2] at b1 b3 b4
    have hh : besideA R.2.1 R.2.2 = x.a := by unfold besideA; rw [if_pos b4]; exact b3
    rcases hl with g | g
    · omega
    · rw [hh] at g
      unfold hasB at g
      rw [List.any_eq_false] at g
      exact g x hx (decide_eq_true ⟨rfl, b2.symm⟩)

end Go.Proofs.Ytffhpjjioefaeae.Kit

/-
  OWN TEXT. Pages come back one by one: plain mathematics.
-/
namespace Go.Proofs.Ytffhpjjioefaeae.Kit

/-- n pages, from p on, come back one by one; none: one of them is free. -/
def giveK : Nat → Zn → Int → Option Zn
  | 0, z, _ => some z
  | n + 1, z, p => if z.free.any (ovl1 (p + pw 0) p) = true then none else giveK n (backZ z p 0) (p + 1)

/-- What may be given. -/
def giveOk (z : Zn) (a s : Int) : Prop := z.f ≤ a ∧ a ≤ z.t ∧ 0 ≤ s ∧ s ≤ z.t - a

theorem page_in {z : Zn} {p : Int} (h1 : z.f ≤ p) (h2 : p < z.t) : blkIn z.f z.t p 0 := ⟨⟨by omega, by omega⟩, h1, by omega, by rw [pw_0]; omega⟩
theorem give_none {n : Nat} {z : Zn} {p : Int} (h : ovlP z.free p 0) : giveK (n + 1) z p = none := by
  unfold giveK
  rw [if_pos ((ovl_any z.free p 0).2 h)]
theorem give_some {n : Nat} {z : Zn} {p : Int} (h : ¬ ovlP z.free p 0) : giveK (n + 1) z p = giveK n (backZ z p 0) (p + 1) := by
  show (if _ then _ else _) = _
  rw [if_neg (fun g => h ((ovl_any z.free p 0).1 g))]

end Go.Proofs.Ytffhpjjioefaeae.Kit

/-
  OWN TEXT. Contracts of the code: buddy.Give.
-/
namespace Go.Proofs.Ytffhpjjioefaeae
open Go Go.RowKit Go.Proofs.Ytffhpjjioefaeae.Kit

set_option maxHeartbeats 1000000 in
theorem zGive_no (w : World) (fo : Option Addr) (fn fc : Nat) (to_ : Option Addr) (tn tc : Nat) (z : Zn) (a s : Int) (h : ZnAt w fo fn to_ tn z) (hf : ZFits z) (hM : ¬ ZMay z) :
    Calls Try.prog 15 #[.agg #[.int .i64 z.f, .int .i64 z.t, .slice fo fn fc, .slice to_ tn tc], .int .i64 a, .int .i64 s] w fun e w' => RetNone 8 e ∧ Below w.heap.size w w' := by
  have I0 := cbI_first w fo fn fc to_ tn tc z h
  have c0 := I0.box.c0
  have c1 := I0.box.c1
  have c2 := I0.box.c2
  have c3 := I0.box.c3
  clear h
  go_enter Try.func15, Try.ntmps15
  go_wp2_with fail
  go_at_call 17
  refine (zCheck_no _ fo fn fc to_ tn tc z I0.zn hf hM).mono ?_
  rintro e w1 ⟨rfl, hb⟩
  have I1 := I0.step hb
  have R1 := I1.res
  obtain ⟨⟨x0, d0⟩, ⟨x1, d1⟩, ⟨x2, d2⟩, ⟨x3, d3⟩, z0, z1, z2, z3⟩ := id R1
  have hB := I1.b
  have hs := I1.size
  clear I0 I1 hb hM hf c0 c1 c2 c3
  go_wp2
  obtain ⟨k0, k1, k2, k3⟩ := res4 R1 (.int .i64 0) (.int .i64 0) (.slice none 0 0) (.slice none 0 0)
  have hbt := but4 w1 (w.heap.size + 1) (.int .i64 0) (.int .i64 0) (.slice none 0 0) (.slice none 0 0)
  exact bodyPost_ret (v := .tuple #[.agg #[.int .i64 0, .int .i64 0, .slice none 0 0, .slice none 0 0], .int .i64 8]) (by simp [results, Try.results15, go_sem, k0, k1, k2, k3]) rfl ⟨rfl, hB.trans (hbt.below (by omega) (by omega))⟩

set_option maxHeartbeats 2000000 in
theorem zGive_range (w : World) (fo : Option Addr) (fn fc : Nat) (to_ : Option Addr) (tn tc : Nat) (z : Zn) (a s : Int) (h : ZnAt w fo fn to_ tn z) (hM : ZMay z) (hr : ¬ giveOk z a s) :
    Calls Try.prog 15 #[.agg #[.int .i64 z.f, .int .i64 z.t, .slice fo fn fc, .slice to_ tn tc], .int .i64 a, .int .i64 s] w fun e w' => RetNone 1 e ∧ Below w.heap.size w w' := by
  have I0 := cbI_first w fo fn fc to_ tn tc z h
  have c0 := I0.box.c0
  have c1 := I0.box.c1
  have c2 := I0.box.c2
  have c3 := I0.box.c3
  obtain ⟨n1, n2, n3, n4, n5⟩ := hM.new
  clear h
  go_enter Try.func15, Try.ntmps15
  go_wp2_with fail
  go_at_call 17
  refine (zCheck_ok _ fo fn fc to_ tn tc z I0.zn hM).mono ?_
  rintro e w1 ⟨rfl, hb⟩
  have I1 := I0.step hb
  have R1 := I1.res
  obtain ⟨⟨x0, d0⟩, ⟨x1, d1⟩, ⟨x2, d2⟩, ⟨x3, d3⟩, z0, z1, z2, z3⟩ := id R1
  have hB := I1.b
  have hs := I1.size
  obtain ⟨k0, k1, k2, k3⟩ := res4 R1 (.int .i64 0) (.int .i64 0) (.slice none 0 0) (.slice none 0 0)
  have hbt := but4 w1 (w.heap.size + 1) (.int .i64 0) (.int .i64 0) (.slice none 0 0) (.slice none 0 0)
  clear I0 hb c0 c1 c2 c3 hM
  have c0 := I1.box.c0
  have c1 := I1.box.c1
  clear I1
  by_cases g1 : s < 0
  · go_wp2
    exact bodyPost_ret (v := .tuple #[.agg #[.int .i64 0, .int .i64 0, .slice none 0 0, .slice none 0 0], .int .i64 1]) (by simp [results, Try.results15, go_sem, k0, k1, k2, k3]) rfl ⟨rfl, hB.trans (hbt.below (by omega) (by omega))⟩
  · by_cases g2 : a < z.f
    · go_wp2
      exact bodyPost_ret (v := .tuple #[.agg #[.int .i64 0, .int .i64 0, .slice none 0 0, .slice none 0 0], .int .i64 1]) (by simp [results, Try.results15, go_sem, k0, k1, k2, k3]) rfl ⟨rfl, hB.trans (hbt.below (by omega) (by omega))⟩
    · by_cases g3 : z.t < a
      · go_wp2
        exact bodyPost_ret (v := .tuple #[.agg #[.int .i64 0, .int .i64 0, .slice none 0 0, .slice none 0 0], .int .i64 1]) (by simp [results, Try.results15, go_sem, k0, k1, k2, k3]) rfl ⟨rfl, hB.trans (hbt.below (by omega) (by omega))⟩
      · have g4 : z.t - a < s := by
          by_cases g : z.t - a < s
          · exact g
          · exact absurd ⟨by omega, by omega, by omega, by omega⟩ hr
        go_wp2
        exact bodyPost_ret (v := .tuple #[.agg #[.int .i64 0, .int .i64 0, .slice none 0 0, .slice none 0 0], .int .i64 1]) (by simp [results, Try.results15, go_sem, k0, k1, k2, k3]) rfl ⟨rfl, hB.trans (hbt.below (by omega) (by omega))⟩

set_option maxHeartbeats 4000000 in
theorem zGive_do (w : World) (fo : Option Addr) (fn fc : Nat) (to_ : Option Addr) (tn tc : Nat) (z : Zn) (a s : Int) (h : ZnAt w fo fn to_ tn z) (hM : ZMay z) (hr : giveOk z a s) (G : Option Zn) (hG : giveK s.toNat z a = G) :
    Calls Try.prog 15 #[.agg #[.int .i64 z.f, .int .i64 z.t, .slice fo fn fc, .slice to_ tn tc], .int .i64 a, .int .i64 s] w fun e w' => ((∃ Z, G = some Z ∧ RetZone w.heap.size w' Z e) ∨ (G = none ∧ RetNone 5 e)) ∧ Below w.heap.size w w' := by
  have I0 := cbI_first w fo fn fc to_ tn tc z h
  have c0 := I0.box.c0
  have c1 := I0.box.c1
  have c2 := I0.box.c2
  have c3 := I0.box.c3
  obtain ⟨n1, n2, n3, n4, n5⟩ := hM.new
  obtain ⟨r1, r2, r3, r4⟩ := hr
  obtain ⟨S, rfl⟩ : ∃ S : Nat, s = S := ⟨s.toNat, by omega⟩
  have htr := h.types.reach
  have HG : Hid (giveK S z a = G) := by show _ = _; rw [← hG]; rfl
  have g1 : ¬ ((S : Int) < 0) := by omega
  have g2 : ¬ a < z.f := by omega
  have g3 : ¬ z.t < a := by omega
  have g4 : ¬ z.t - a < (S : Int) := by omega
  clear h hG
  go_enter Try.func15, Try.ntmps15
  go_wp2_with fail
  go_at_call 17
  refine (zCheck_ok _ fo fn fc to_ tn tc z I0.zn hM).mono ?_
  rintro e w1 ⟨rfl, hb⟩
  have I1 := I0.step hb
  clear I0 hb c0 c1 c2 c3
  have c0 := I1.box.c0
  have c1 := I1.box.c1
  have c2 := I1.box.c2
  have c3 := I1.box.c3
  go_wp2_with fail
  go_at_call 26
  refine (zCopy_own _ fo fn fc to_ tn tc z I1.zn).mono ?_
  rintro e w3 ⟨g, k, rfl, o1, o2, hgk, hb3⟩
  have I3 := I1.step hb3
  have Z4 := zo_new o1 o2 hgk
  have hbx := below_box w3 (.cells #[.int .i64 z.f, .int .i64 z.t, .slice (some ⟨g, 0, none⟩) fn fn, .slice (some ⟨k, 0, none⟩) tn tn] 25)
  have I4 := I3.step hbx
  have hs1 := I1.size
  have hs3 := I3.size
  obtain ⟨W4, hW4⟩ : ∃ W4, w3.alloc (.cells #[.int .i64 z.f, .int .i64 z.t, .slice (some ⟨g, 0, none⟩) fn fn, .slice (some ⟨k, 0, none⟩) tn tn] 25) = W4 := ⟨_, rfl⟩
  rw [hW4] at I4 Z4
  have HW4 : Hid _ := hW4
  clear I1 I3 hb3 c0 c1 c2 c3 o1 o2 hbx hW4 g1 g2 g3 g4
  go_wp2_with (rw [HW4.out])
  clear HW4
  go_loopw [44] (fun iv wr => ∃ (i : Nat) (zi : Zn) (g n cap : Nat), i ≤ S ∧ iv = .int .i64 i ∧ Hid (giveK (S - i) zi (a + i) = G) ∧ ZMay zi ∧ zi.f = z.f ∧ zi.t = z.t ∧ Zo wr w1.heap.size w3.heap.size g n cap k tn tn zi ∧ Res4 wr (w.heap.size + 1) ∧ Below w.heap.size w wr ∧ w.heap.size + 2 ≤ wr.heap.size) (fun iv _ => S - (intOf iv).toNat)
  case atStart => exact ⟨0, z, g, fn, fn, Nat.zero_le _, rfl, by simpa using HG, hM, rfl, rfl, Z4, I4.res, I4.b, I4.size⟩
  case round =>
    obtain ⟨i, zi, g, n, cap, hi, rfl, hGi, hMi, hf, ht, Z, R, hB, hs⟩ := hrel
    clear Z4 I4 HG hM hgk
    have hgb := (Row.of Z.own).1
    by_cases hlt : i < S
    · have hA : blkIn zi.f zi.t (a + i) 0 := page_in (by omega) (by omega)
      obtain ⟨m, hm⟩ : ∃ m, S - i = m + 1 := ⟨S - i - 1, by omega⟩
      by_cases hv : ovlP zi.free (a + i) 0
      · have HP := put_twice wr w1.heap.size w3.heap.size g n cap k tn tn zi (a + i) 0 Z hMi hA hv
        have HN : Hid (G = none) := by show _ = _; rw [← hGi.out, hm]; exact give_none hv
        clear hGi hMi hv hA
        go_wp2_with fail
        go_at_call 27
        refine HP.mono ?_
        rintro e w5 ⟨rfl, hb5⟩
        have R1 := R.below hb5
        have hB5 := hB.trans (hb5.mono hB.size)
        have hs5 := hb5.size
        obtain ⟨⟨x0, d0⟩, ⟨x1, d1⟩, ⟨x2, d2⟩, ⟨x3, d3⟩, z0, z1, z2, z3⟩ := id R1
        clear HP Z R hb5 hB
        go_wp2
        obtain ⟨k0, k1, k2, k3⟩ := res4 R1 (.int .i64 0) (.int .i64 0) (.slice none 0 0) (.slice none 0 0)
        have hbt := but4 w5 (w.heap.size + 1) (.int .i64 0) (.int .i64 0) (.slice none 0 0) (.slice none 0 0)
        exact bodyPost_ret (v := .tuple #[.agg #[.int .i64 0, .int .i64 0, .slice none 0 0, .slice none 0 0], .int .i64 5]) (by simp [results, Try.results15, go_sem, k0, k1, k2, k3]) rfl ⟨.inr ⟨HN.out, rfl⟩, hB5.trans (hbt.below (by omega) (by omega))⟩
      · have HP := put_ok wr w1.heap.size w3.heap.size g n cap k tn tn zi (a + i) 0 Z hMi hA hv
        have HN : Hid (giveK (S - (i + 1)) (backZ zi (a + i) 0) (a + ((i + 1 : Nat) : Int)) = G) := by
          show _ = _
          rw [← hGi.out, hm, give_some hv, show S - (i + 1) = m by omega, show a + ((i + 1 : Nat) : Int) = a + i + 1 by omega]
        have hM2 := backZ_may hMi hA hv
        have hf2 : (backZ zi (a + i) 0).f = z.f := hf
        have ht2 : (backZ zi (a + i) 0).t = z.t := ht
        obtain ⟨Y, hY⟩ : ∃ Y, backZ zi (a + i) 0 = Y := ⟨_, rfl⟩
        rw [hY] at HP HN hM2 hf2 ht2
        have hzl := Z.box.lt
        clear hGi hMi hv hA hY Z
        go_wp2_with fail
        go_at_call 27
        refine HP.mono ?_
        rintro e w5 ⟨rfl, g', n', cap', Z5, hg', hU⟩
        have R5 := hU.res R (by omega) (by omega)
        have hB5 : Below w.heap.size w w5 := hB.trans (hU.below (by omega) (by omega) (by omega))
        have hs5 := Nat.le_trans hs hU.size
        clear HP R hB hU
        go_wp2
        go_roundw
        case rel => exact ⟨i + 1, Y, g', n', cap', by omega, by go_num, HN, hM2, hf2, ht2, Z5, R5, hB5, hs5⟩
        case measure => simp [intOf]; omega
    · have HN : Hid (G = some zi) := by
        show _ = _
        have h0 : S - i = 0 := by omega
        rw [← hGi.out, h0]
        rfl
      have hbl := may_len hMi
      obtain ⟨⟨x0, d0⟩, ⟨x1, d1⟩, ⟨x2, d2⟩, ⟨x3, d3⟩, z0, z1, z2, z3⟩ := id R
      have y0 := Z.box.c0
      have y1 := Z.box.c1
      have y2 := Z.box.c2
      have y3 := Z.box.c3
      have hkb := (Row.of Z.typ).1
      have B7 := blks_own Z.own (by have := bowns_len Z.own; omega)
      have N7 := nums_of_owns Z.typ htr
      clear hGi hMi Z hf ht
      go_wp2
      obtain ⟨k0, k1, k2, k3⟩ := res4 R (.int .i64 zi.f) (.int .i64 zi.t) (.slice (some ⟨g, 0, none⟩) n cap) (.slice (some ⟨k, 0, none⟩) tn tn)
      have hbt := but4 wr (w.heap.size + 1) (.int .i64 zi.f) (.int .i64 zi.t) (.slice (some ⟨g, 0, none⟩) n cap) (.slice (some ⟨k, 0, none⟩) tn tn)
      exact bodyPost_ret (v := .tuple #[.agg #[.int .i64 zi.f, .int .i64 zi.t, .slice (some ⟨g, 0, none⟩) n cap, .slice (some ⟨k, 0, none⟩) tn tn], .int .i64 0]) (by simp [results, Try.results15, go_sem, k0, k1, k2, k3]) rfl ⟨.inl ⟨zi, HN.out, _, _, _, _, _, _, rfl, hbt.zn ⟨B7, N7⟩ (fun a ha => by cases ha; dsimp only; omega) (fun a ha => by cases ha; dsimp only; omega), fun a ha => by cases ha; dsimp only; omega, fun a ha => by cases ha; dsimp only; omega⟩, hB.trans (hbt.below (by omega) (by omega))⟩

end Go.Proofs.Ytffhpjjioefaeae

/-
  OWN TEXT. Contract of the document's answer: In.
-/
namespace Go.Proofs.Ytffhpjjioefaeae
open Go Go.RowKit Go.Proofs.Ytffhpjjioefaeae.Kit

theorem in_any (n lo hi : Int) (w : World) :
    Calls Try.prog 22 #[.int .i64 n, .int .i64 lo, .int .i64 hi] w fun e w' => e = .returned (.bool (inB n lo hi)) ∧ w = w' := by
  by_cases h1 : lo ≤ n
  · by_cases h2 : n ≤ hi
    · have hI : Hid (inB n lo hi = true) := inB_t ⟨h1, h2⟩
      go_enter Try.func22, Try.ntmps22
      go_wp2
      go_ret
      exact ⟨ret_bool hI.out.symm, rfl⟩
    · have hI : Hid (inB n lo hi = false) := inB_f (by omega)
      go_enter Try.func22, Try.ntmps22
      go_wp2
      go_ret
      exact ⟨ret_bool hI.out.symm, rfl⟩
  · have hI : Hid (inB n lo hi = false) := inB_f (by omega)
    go_enter Try.func22, Try.ntmps22
    go_wp2
    go_ret
    exact ⟨ret_bool hI.out.symm, rfl⟩

end Go.Proofs.Ytffhpjjioefaeae

/-
  OWN TEXT. Contracts of the document's answer: power.
-/
namespace Go.Proofs.Ytffhpjjioefaeae
open Go Go.RowKit Go.Proofs.Ytffhpjjioefaeae.Kit

set_option maxHeartbeats 1000000 in
theorem power_nat (w : World) (n : Nat) (hn : n ≤ 8) :
    Calls Try.prog 30 #[.int .i64 n] w fun e w' => e = .returned (.int .i64 ((2 ^ n : Nat) : Int)) ∧ w = w' := by
  obtain ⟨P, hP⟩ : ∃ P : Nat, 2 ^ n = P := ⟨_, rfl⟩
  rw [hP]
  have HP : Hid (2 ^ n = P) := hP
  clear hP
  go_enter Try.func30, Try.ntmps30
  go_wp2
  go_loopw [0, 3] (fun nv pv wr => ∃ k q : Nat, k ≤ n ∧ q ≤ 256 ∧ nv = .int .i64 k ∧ pv = .int .i64 q ∧ Hid (q * 2 ^ k = P) ∧ w = wr) (fun nv _ _ => (intOf nv).toNat)
  case atStart => exact ⟨n, 1, Nat.le_refl _, by omega, rfl, rfl, by show _ = _; rw [Nat.one_mul]; exact HP.out, rfl⟩
  case round =>
    obtain ⟨k, q, hk, hq, rfl, rfl, hI, rfl⟩ := hrel
    cases k with
    | zero =>
      obtain rfl : q = P := by have := hI.out; simpa using this
      clear hI HP
      go_wp2
      go_ret
      exact ⟨rfl, rfl⟩
    | succ k =>
      have hI2 : Hid (2 * q * 2 ^ k = P) := by have := hI.out; show _ = _; rw [← this, Nat.pow_succ]; rw [Nat.mul_comm 2 q, Nat.mul_assoc, Nat.mul_comm 2]
      have hq3 : 2 * q ≤ 256 := by
        have h1 := hI2.out
        have h2 := HP.out
        have h3 : P ≤ 256 := by rw [← h2]; exact Nat.le_trans (Nat.pow_le_pow_right (by omega) hn) (by decide)
        have h4 := Nat.two_pow_pos k
        have h5 : 2 * q * 1 ≤ 2 * q * 2 ^ k := Nat.mul_le_mul_left _ h4
        omega
      have t1 : (0 : Int) < ((k + 1 : Nat) : Int) := by omega
      clear hI HP
      go_wp2
      go_roundw
      case rel => exact ⟨k, 2 * q, by omega, hq3, by go_num, by go_num, hI2, trivial⟩
      case measure => simp [intOf]

theorem power_any (w : World) (o : Int) (h0 : 0 ≤ o) (h : o ≤ 8) :
    Calls Try.prog 30 #[.int .i64 o] w fun e w' => e = .returned (.int .i64 (pw o)) ∧ w = w' := by
  obtain ⟨n, rfl⟩ : ∃ n : Nat, o = n := ⟨o.toNat, by omega⟩
  exact power_nat w n (by omega)

/-- The same, as a quiet region asks for it. -/
theorem power_q (o : Int) (h0 : 0 ≤ o) (h : o ≤ 8) (w : World) :
    Calls Try.prog 30 #[.int .i64 o] w fun e w' => e = .returned (.int .i64 (pw o)) ∧ w' = w :=
  (power_any w o h0 h).mono fun _ _ ⟨h1, h2⟩ => ⟨h1, h2.symm⟩

/-- The same, the power under a name. -/
theorem power_v (o v : Int) (h0 : 0 ≤ o) (h : o ≤ 8) (hv : pw o = v) (w : World) :
    Calls Try.prog 30 #[.int .i64 o] w fun e w' => e = .returned (.int .i64 v) ∧ w' = w := by
  subst hv; exact power_q o h0 h w

end Go.Proofs.Ytffhpjjioefaeae

/-
  OWN TEXT. Contracts of the document's answer: ZoneNew.
-/
namespace Go.Proofs.Ytffhpjjioefaeae
open Go Go.RowKit Go.Proofs.Ytffhpjjioefaeae.Kit

/-- The empty zone, as cells. -/
theorem newOk_nat {f t : Int} (h : newOk f t) : ∃ F T : Nat, f = F ∧ t = T ∧ F ≤ T ∧ T ≤ 256 ∧ F % 16 = 0 ∧ T % 16 = 0 := by
  obtain ⟨h1, h2, h3, h4, h5⟩ := h
  exact ⟨f.toNat, t.toNat, by omega, by omega, by omega, by omega, by omega, by omega⟩

set_option maxHeartbeats 2000000 in
theorem zoneNew_nat (w : World) (f t : Nat) (h1 : f ≤ t) (h2 : t ≤ 256) (h3 : f % 16 = 0) (h4 : t % 16 = 0) :
    Calls Try.prog 38 #[.int .i64 f, .int .i64 t] w fun e w' => RetZone w.heap.size w' ⟨f, t, [], List.replicate ((t - f) / 8) 1⟩ e ∧ Below w.heap.size w w' := by
  have e1 : inB f 0 256 = true := inB_t (by omega)
  have e2 : inB t f 256 = true := inB_t (by omega)
  have m1 : (f : Int) % 16 = 0 := by omega
  have m2 : (t : Int) % 16 = 0 := by omega
  obtain ⟨i0, hi, hz0, hz1, hz2⟩ := info_parts info_int
  have hb2 : Below w.heap.size w ((w.alloc (.cells #[.int .i64 0, .int .i64 0, .slice none 0 0, .slice none 0 0] 25)).alloc (.cells #[.int .i64 f, .int .i64 t, .slice none 0 0, .slice none 0 0] 25)) := ((Below.refl _ _).alloc (Nat.le_refl _) _).alloc (by simp) _
  have R0 : Res4 ((w.alloc (.cells #[.int .i64 0, .int .i64 0, .slice none 0 0, .slice none 0 0] 25)).alloc (.cells #[.int .i64 f, .int .i64 t, .slice none 0 0, .slice none 0 0] 25)) w.heap.size := (zbox_new w _ _ _ _ _).res.below (below_box _ _)
  have Z0 : ZBox ((w.alloc (.cells #[.int .i64 0, .int .i64 0, .slice none 0 0, .slice none 0 0] 25)).alloc (.cells #[.int .i64 f, .int .i64 t, .slice none 0 0, .slice none 0 0] 25)) (w.heap.size + 1) (.int .i64 f) (.int .i64 t) (.slice none 0 0) (.slice none 0 0) := by
    have := zbox_new (w.alloc (.cells #[.int .i64 0, .int .i64 0, .slice none 0 0, .slice none 0 0] 25)) (.int .i64 f) (.int .i64 t) (.slice none 0 0) (.slice none 0 0) 25
    simpa using this
  obtain ⟨N, hN⟩ : ∃ N, N = (t - f) / 8 := ⟨_, rfl⟩
  have hN8 : f + 8 * N = t := by omega
  rw [← hN]
  have hs0 : w.heap.size + 2 ≤ ((w.alloc (.cells #[.int .i64 0, .int .i64 0, .slice none 0 0, .slice none 0 0] 25)).alloc (.cells #[.int .i64 f, .int .i64 t, .slice none 0 0, .slice none 0 0] 25)).heap.size := by simp
  clear hN
  obtain ⟨W0, hW0⟩ : ∃ W0, (w.alloc (.cells #[.int .i64 0, .int .i64 0, .slice none 0 0, .slice none 0 0] 25)).alloc (.cells #[.int .i64 f, .int .i64 t, .slice none 0 0, .slice none 0 0] 25) = W0 := ⟨_, rfl⟩
  rw [hW0] at hb2 R0 Z0 hs0
  have HW0 : Hid _ := hW0
  clear hW0
  go_enter Try.func38, Try.ntmps38
  go_wp2_with (go_at_call 22; refine (in_any _ _ _ _).mono ?_; rintro e w' ⟨rfl, rfl⟩)
  rw [HW0.out]
  clear e1 e2 m1 m2 HW0
  go_loopw [7] (fun pv wr => ∃ (k p c : Nat) (bo : Option Addr), p = f + 8 * k ∧ k ≤ N ∧ pv = .int .i64 p ∧ ZBox wr (w.heap.size + 1) (.int .i64 f) (.int .i64 t) (.slice none 0 0) (.slice bo k c) ∧ wr.ownsRow (w.heap.size + 2) 3 1 (.slice bo k c) k (vals (List.replicate k 1)) ∧ Res4 wr w.heap.size ∧ Below w.heap.size w wr ∧ w.heap.size + 2 ≤ wr.heap.size) (fun pv _ => f + 8 * N - (intOf pv).toNat)
  case atStart => exact ⟨0, f, 0, none, by omega, Nat.zero_le _, rfl, Z0, World.ownsRow_nil _ _ _ _, R0, hb2, hs0⟩
  case round =>
    obtain ⟨k, p, c, bo, hp, hk, rfl, Z, hown, R, hb, hs⟩ := hrel
    clear Z0 R0 hb2 hs0
    by_cases hlt : k < N
    · have hpt : (p : Int) < t := by omega
      have hml : k + 1 ≤ maxLen := by unfold maxLen; omega
      have hsz : (k + 1) * 8 ≤ 140737488355328 := by omega
      have c3 := Z.c3
      go_wp2_with (at_builtin; refine wpList_append_own _ rfl (.tmp 38) (.tmp 39) 23 rfl (w.heap.size + 2) 3 i0 (.int .i64 0) 1 8 Try.underlying23 hi hz0 hz1 hz2 rfl (by decide) _ _ _ rfl (hown.alloc _) ⟨wr.heap.size, 0, none⟩ 1 1 [.int .i64 1] rfl rfl ?c1 ?c2 hml hsz ?c5 ?_)
      case c1 => exact cell_one_new' _ _ _
      case c2 => exact ints_oneCell .i64 [_]
      case c5 => simp; omega
      intro v' w3 hown' hgrow _
      have hb3 : Below (w.heap.size + 2) wr w3 := ((Below.refl _ _).alloc hs _).grown hgrow (by simp; omega) (fun g hg => (hown.lt g hg).1)
      have e9 : vals (List.replicate k 1) ++ [Value.int .i64 1] = vals (List.replicate (k + 1) 1) := by rw [List.replicate_succ', vals_append]; rfl
      rw [e9] at hown'
      obtain ⟨bo', c', rfl⟩ := owns_shape hown'
      have Z3 := Z.belowB hb3 (by omega)
      have R3 := R.belowB hb3 (by omega)
      have hB3 := hb.trans (hb3.mono (by omega))
      have hs3 := Nat.le_trans hs hb3.size
      have Z4 := Z3.set3 (.slice bo' (k + 1) c')
      have own4 := ownsRow_setCell_below hown' (a := ⟨w.heap.size + 1, 3, none⟩) (show w.heap.size + 1 < w.heap.size + 2 by omega) (.slice bo' (k + 1) c')
      have hbt : But (w.heap.size + 1) w3 (w3.setCell ⟨w.heap.size + 1, 3, none⟩ (.slice bo' (k + 1) c')) := (But.refl _ _).setCell _
      have R4 := R3.but hbt (by omega)
      have hB4 := hB3.trans (hbt.below (B := w.heap.size) (by omega) (by omega))
      have hs4 := Nat.le_trans hs3 hbt.size
      have c3' := Z3.c3
      have z3' := Z3.z3
      clear Z R hown hb hs hgrow hb3 Z3 R3 hB3 hs3 hown' hbt e9 c3
      go_wp2
      go_roundw
      case rel => exact ⟨k + 1, f + 8 * (k + 1), c', bo', rfl, by omega, by go_num, Z4, own4, R4, hB4, hs4⟩
      case measure => simp [intOf]; omega
    · have hpt : ¬ (p : Int) < t := by omega
      obtain rfl : k = N := by omega
      have c0 := Z.c0
      have c1 := Z.c1
      have c2 := Z.c2
      have c3 := Z.c3
      obtain ⟨⟨x0, d0⟩, ⟨x1, d1⟩, ⟨x2, d2⟩, ⟨x3, d3⟩, z0, z1, z2, z3⟩ := id R
      go_wp2
      obtain ⟨k0, k1, k2, k3⟩ := res4 R (.int .i64 f) (.int .i64 t) (.slice none 0 0) (.slice bo k c)
      have hbt := but4 wr w.heap.size (.int .i64 f) (.int .i64 t) (.slice none 0 0) (.slice bo k c)
      refine bodyPost_ret (v := .tuple #[.agg #[.int .i64 f, .int .i64 t, .slice none 0 0, .slice bo k c], .int .i64 0]) (by simp [results, Try.results38, go_sem, k0, k1, k2, k3]) rfl ⟨⟨none, 0, 0, bo, k, c, rfl, ⟨Blks.nil _, hbt.nums (nums_of_owns hown (by omega)) (fun a ha => by have := owns_fresh hown a ha; omega)⟩, fresh_none _, (owns_fresh hown).mono (by omega)⟩, hb.trans (hbt.below (Nat.le_refl _) hb.size)⟩

theorem zoneNew_ok (w : World) (f t : Int) (h : newOk f t) :
    Calls Try.prog 38 #[.int .i64 f, .int .i64 t] w fun e w' => RetZone w.heap.size w' (newZ f t) e ∧ Below w.heap.size w w' := by
  obtain ⟨F, T, rfl, rfl, h1, h2, h3, h4⟩ := newOk_nat h
  have e : newZ (F : Int) T = ⟨F, T, [], List.replicate ((T - F) / 8) 1⟩ := by
    unfold newZ newTypes
    have : (((T : Int) - F) / 8).toNat = (T - F) / 8 := by omega
    rw [this]
  rw [e]
  exact zoneNew_nat w F T h1 h2 h3 h4

set_option maxHeartbeats 2000000 in
theorem zoneNew_no (w : World) (f t : Int) (h : ¬ newOk f t) :
    Calls Try.prog 38 #[.int .i64 f, .int .i64 t] w fun e w' => RetNone 1 e ∧ Below w.heap.size w w' := by
  have hb1 := below_box w (.cells #[.int .i64 0, .int .i64 0, .slice none 0 0, .slice none 0 0] 25)
  by_cases h1 : 0 ≤ f ∧ f ≤ 256
  · by_cases h2 : f ≤ t ∧ t ≤ 256
    · obtain ⟨F, rfl⟩ : ∃ F : Nat, f = F := ⟨f.toNat, by omega⟩
      obtain ⟨T, rfl⟩ : ∃ T : Nat, t = T := ⟨t.toNat, by omega⟩
      have e1 : inB (F : Int) 0 256 = true := inB_t h1
      have e2 : inB (T : Int) F 256 = true := inB_t h2
      by_cases h3 : (F : Int) % 16 = 0
      · have h4 : ¬ (T : Int) % 16 = 0 := fun g => h ⟨by omega, by omega, by omega, h3, g⟩
        clear h h1 h2
        go_enter Try.func38, Try.ntmps38
        go_wp2_with (go_at_call 22; refine (in_any _ _ _ _).mono ?_; rintro e w' ⟨rfl, rfl⟩)
        exact bodyPost_ret (v := .tuple #[.agg #[.int .i64 0, .int .i64 0, .slice none 0 0, .slice none 0 0], .int .i64 1]) (by simp [results, Try.results38, go_sem]) rfl ⟨rfl, hb1⟩
      · clear h h1 h2
        go_enter Try.func38, Try.ntmps38
        go_wp2_with (go_at_call 22; refine (in_any _ _ _ _).mono ?_; rintro e w' ⟨rfl, rfl⟩)
        exact bodyPost_ret (v := .tuple #[.agg #[.int .i64 0, .int .i64 0, .slice none 0 0, .slice none 0 0], .int .i64 1]) (by simp [results, Try.results38, go_sem]) rfl ⟨rfl, hb1⟩
    · have e1 : inB f 0 256 = true := inB_t h1
      have e2 : inB t f 256 = false := inB_f h2
      clear h h1 h2
      go_enter Try.func38, Try.ntmps38
      go_wp2_with (go_at_call 22; refine (in_any _ _ _ _).mono ?_; rintro e w' ⟨rfl, rfl⟩)
      exact bodyPost_ret (v := .tuple #[.agg #[.int .i64 0, .int .i64 0, .slice none 0 0, .slice none 0 0], .int .i64 1]) (by simp [results, Try.results38, go_sem]) rfl ⟨rfl, hb1⟩
  · have e1 : inB f 0 256 = false := inB_f h1
    clear h h1
    go_enter Try.func38, Try.ntmps38
    go_wp2_with (go_at_call 22; refine (in_any _ _ _ _).mono ?_; rintro e w' ⟨rfl, rfl⟩)
    exact bodyPost_ret (v := .tuple #[.agg #[.int .i64 0, .int .i64 0, .slice none 0 0, .slice none 0 0], .int .i64 1]) (by simp [results, Try.results38, go_sem]) rfl ⟨rfl, hb1⟩

end Go.Proofs.Ytffhpjjioefaeae

/-
  OWN TEXT. Contract of the document's answer: blockMay.
-/
namespace Go.Proofs.Ytffhpjjioefaeae
open Go Go.RowKit Go.Proofs.Ytffhpjjioefaeae.Kit

set_option maxHeartbeats 2000000 in
theorem blockMay_any (w : World) (f t : Int) (fo to_ : Option Addr) (fn fc tn tc : Nat) (a o : Int) (h : newOk f t) :
    Calls Try.prog 28 #[.agg #[.int .i64 f, .int .i64 t, .slice fo fn fc, .slice to_ tn tc], .int .i64 a, .int .i64 o] w fun e w' => e = .returned (.bool (blkB f t a o)) ∧ Below w.heap.size w w' := by
  obtain ⟨h1, h2, h3, h4, h5⟩ := h
  have hb1 := below_box w (.cells #[.int .i64 f, .int .i64 t, .slice fo fn fc, .slice to_ tn tc] 25)
  by_cases p1 : 0 ≤ o ∧ o ≤ 4
  · have e1 : inB o 0 4 = true := inB_t p1
    by_cases p2 : f ≤ a ∧ a ≤ t - 1
    · have e2 : inB a f (t - 1) = true := inB_t p2
      obtain ⟨A, rfl⟩ : ∃ A : Nat, a = A := ⟨a.toNat, by omega⟩
      obtain ⟨P, hP, hP0⟩ : ∃ P : Nat, pw o = P ∧ 0 < P := ⟨(pw o).toNat, by have := pw_pos o; omega, by have := pw_pos o; omega⟩
      have hP1 : ((P : Int) == 0) = false := by simp; omega
      have HR : Hid (blkB f t (A : Int) o = decide ((A : Int) % P = 0)) := by show _ = _; unfold blkB; rw [e1, e2, hP]; rfl
      have hp16 : P ≤ 16 := by have := pw_le (show ordOk o from p1); omega
      have HP : Hid (pw o = P) := hP
      clear hP
      go_enter Try.func28, Try.ntmps28
      go_wp2_with (go_at_call 22; refine (in_any _ _ _ _).mono ?_; rintro e w' ⟨rfl, rfl⟩)
      go_at_call 30
      refine (power_any _ o p1.1 (by omega)).mono ?_
      rintro e w' ⟨rfl, rfl⟩
      rw [HP.out]
      by_cases d : (A : Int) % (P : Int) = 0
      · have HR2 : Hid (blkB f t (A : Int) o = true) := by show _ = _; rw [HR.out]; exact decide_eq_true d
        clear HR HP
        go_wp2
        go_ret
        exact ⟨ret_bool HR2.out.symm, hb1⟩
      · have HR2 : Hid (blkB f t (A : Int) o = false) := by show _ = _; rw [HR.out]; exact decide_eq_false d
        clear HR HP
        go_wp2
        go_ret
        exact ⟨ret_bool (by rw [HR2.out]; simpa using d), hb1⟩
    · have e2 : inB a f (t - 1) = false := inB_f p2
      have HR : Hid (blkB f t a o = false) := by show _ = _; unfold blkB; rw [e1, e2]; rfl
      go_enter Try.func28, Try.ntmps28
      go_wp2_with (go_at_call 22; refine (in_any _ _ _ _).mono ?_; rintro e w' ⟨rfl, rfl⟩)
      go_ret
      exact ⟨ret_bool HR.out.symm, hb1⟩
  · have e1 : inB o 0 4 = false := inB_f p1
    have HR : Hid (blkB f t a o = false) := by show _ = _; unfold blkB; rw [e1]; rfl
    go_enter Try.func28, Try.ntmps28
    go_wp2_with (go_at_call 22; refine (in_any _ _ _ _).mono ?_; rintro e w' ⟨rfl, rfl⟩)
    go_ret
    exact ⟨ret_bool HR.out.symm, hb1⟩

end Go.Proofs.Ytffhpjjioefaeae
