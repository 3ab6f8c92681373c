/-
  OWN TEXTS, bundled: RefHi.
-/
import Derived.Test.YtbjlbmofdnkmiaaPagesDrainsPart17
import Derived.Test.YtbjlbmofdnkmiaaPagesDrainsPart16
import Derived.Test.YtbjlbmofdnkmiaaPagesDrainsPart9
import Derived.Test.YtbjlbmofdnkmiaaPagesDrainsPart5
import Derived.Test.YtbjlbmofdnkmiaaPagesDrainsPart4
import Derived.Test.YtbjlbmofdnkmiaaPagesDrainsPart3

/-
  OWN TEXT. HeapMay: what holds in the midst of it.
-/
namespace Go.Proofs.Ytbjlbmofdnkmiaa
open Go Go.RowKit Go.Proofs.Ytbjlbmofdnkmiaa.Kit

/-- P was added so far. -/
structure HmI (W1 W : World) (ab r : Nat) (P : List Bk) : Prop where
  B : Below W1.heap.size W1 W
  A : ∃ ao cap, AllI W ab r P ao cap
  h : W1.heap.size ≤ ab
  hr : W1.heap.size ≤ r
  hl : r < W.heap.size
  apt : Apt [] P
  inp : ∀ i, i < P.length → InP (P.getD i .zero)
theorem HmI.below {W1 W W' : World} {ab r : Nat} {P : List Bk} (h : HmI W1 W ab r P) (hb : Below W.heap.size W W') : HmI W1 W' ab r P := by
  obtain ⟨ao, cap, hA⟩ := h.A
  exact ⟨Below.next h.B hb, ⟨ao, cap, hA.below hb⟩, h.h, h.hr, Nat.lt_of_lt_of_le h.hl hb.size, h.apt, h.inp⟩
theorem hm_add {W1 W : World} {ab r : Nat} {P : List Bk} (h : HmI W1 W ab r P) (b : Bk) (hb : InP b) :
    Calls Try.prog 37 #[.agg #[.int .i64 b.a, .int .i64 b.o, .int .i64 b.t], .pointer (some ⟨ab, 0, none⟩)] W fun e w' =>
      ∃ r', (e = .returned (.bool true) ∧ HmI W1 w' ab r' (P ++ [b]) ∧ (r' = r ∨ W.heap.size ≤ r') ∧ Bu2 r ab W w') ∨ (e = .returned (.bool false) ∧ (∀ q, ¬ Apt [] (P ++ [b] ++ q)) ∧ Below W.heap.size W w') := by
  obtain ⟨ao, cap, hA⟩ := h.A
  have hlen := apt_len h.apt h.inp
  refine (heapMayF_any W ab r P ao cap b hA h.inp (by omega) hb).mono ?_
  rintro e w' (⟨rfl, h1, r', ao', cap', h2, h3, h4⟩ | ⟨rfl, h1, h2⟩)
  · have hsz : W.heap.size ≤ w'.heap.size := h4.size
    refine ⟨r', .inl ⟨rfl, ⟨h.B.trans (h4.below h.hr h.h h.B.size), ⟨_, _, h2⟩, h.h, ?_, ?_, apt_snoc h.apt h1, inP_snoc h.inp hb⟩, h3, h4⟩⟩
    · have := h.hr; have := h.B.size; rcases h3 with rfl | h3 <;> omega
    · rcases h3 with e | h5
      · have := h.hl; omega
      · cases ao' with
        | none =>
          have := h2.own.1
          rw [length_bvals] at this
          rcases h2.own.2 with ⟨e, _⟩ | ⟨g, cp, cur, e, _⟩
          · have h6 : (P ++ [b]).length = 0 := by injection e
            simp at h6
          · injection e with e1; cases e1
        | some ad =>
          have e1 := h2.r ad rfl
          obtain ⟨g, e2, _, h7⟩ := owns_head h2.own (by simp)
          cases e2
          have : g = r' := e1
          omega
  · exact ⟨r, .inr ⟨rfl, fun q => not_apt h1, h2⟩⟩

theorem HmI.lab {W1 W : World} {ab r : Nat} {P : List Bk} (h : HmI W1 W ab r P) : ab < W.heap.size := by
  obtain ⟨ao, cap, hA⟩ := h.A
  exact hA.lt
theorem hm_start {W : World} {b : Nat} (h : W.heap[b]? = some (.cells #[.slice none 0 0] 26 (0, 0))) : AllI W b b [] none 0 :=
  ⟨by simp [World.cell?, h], by simp [World.frozen?, h], ⟨rfl, .inl ⟨rfl, rfl⟩⟩, fun a ha => by cases ha⟩
theorem ahead_c (a b : Ls) (po po' : Value) [Decidable (aheadL a b)] (w : World) :
    Calls Try.prog 40 #[.agg #[.int .i64 a.c, .int .i64 a.z, .int .i64 a.t, po], .agg #[.int .i64 b.c, .int .i64 b.z, .int .i64 b.t, po']] w fun e w' => e = .returned (.bool (decide (aheadL a b))) ∧ Below w.heap.size w w' :=
  ahead_b w a b po po' _ (by simp)
theorem power_c (o : Int) (h0 : 0 ≤ o) (h1 : o ≤ 4) (w : World) : Calls Try.prog 39 #[.int .i64 o] w fun e w' => e = .returned (.int .i64 (pw o)) ∧ Below w.heap.size w w' := by
  refine (power_v o _ (by omega) (by omega) rfl w).mono ?_
  rintro e w' ⟨rfl, rfl⟩
  exact ⟨rfl, Below.refl _ _⟩
abbrev FZ (c : Zc) : List Bk := c.z.free
abbrev FL (c : Lc) : List Bk := c.l.pages.map pgB
theorem free_at {x : Hx} (hz : ZsOk x.hp) {i k : Nat} (hi : i < x.zs.length) (hk : k < (FZ (x.zs.getD i .zero)).length) : InP ((FZ (x.zs.getD i .zero)).getD k .zero) :=
  free_in hz _ (getD_mem (d := Zc.zero) hi) k hk
theorem zone_bd {x : Hx} (hz : ZsOk x.hp) {i : Nat} (hi : i < x.zs.length) : 0 ≤ (x.zs.getD i .zero).z.f ∧ (x.zs.getD i .zero).z.f ≤ (x.zs.getD i .zero).z.t ∧ (x.zs.getD i .zero).z.t ≤ 256 := by
  have h0 := hz.m0.new
  have h1 := hz.m1.new
  rw [zoneOf_hp] at h0 h1
  obtain ⟨a1, a2, a3, _, _⟩ := h0
  obtain ⟨b1, b2, b3, _, _⟩ := h1
  rcases two_zones hz _ (getD_mem (d := Zc.zero) hi) with e | e <;> rw [e] <;> omega
/-- The first i lists may be. -/
structure LsI (x : Hx) (i : Nat) : Prop where
  ok : ∀ j, j < i → LsOk x.hp (x.ls.getD j .zero).l
  ord : ∀ j, 0 < j → j < i → aheadL (x.ls.getD (j - 1) .zero).l (x.ls.getD j .zero).l
theorem LsI.nil (x : Hx) : LsI x 0 := ⟨fun j h => by omega, fun j _ h => by omega⟩
theorem LsI.succ {x : Hx} {i : Nat} (h : LsI x i) (ho : LsOk x.hp (x.ls.getD i .zero).l) (ha : 0 < i → aheadL (x.ls.getD (i - 1) .zero).l (x.ls.getD i .zero).l) : LsI x (i + 1) := by
  refine ⟨fun j hj => ?_, fun j h0 hj => ?_⟩
  · by_cases e : j = i
    · rw [e]; exact ho
    · exact h.ok j (by omega)
  · by_cases e : j = i
    · rw [e]; exact ha (by omega)
    · exact h.ord j h0 (by omega)
theorem LsI.all {x : Hx} {i : Nat} (h : LsI x i) (hi : x.ls.length ≤ i) : LssOk x.hp := by
  have e : x.hp.lists.length = x.ls.length := by show (x.ls.map _).length = _; rw [List.length_map]
  exact ⟨fun j hj => by rw [listOf_hp]; exact h.ok j (by omega), fun j h0 hj => by rw [listOf_hp, listOf_hp]; exact h.ord j h0 (by omega)⟩
/-- The first i blocks that are away may be. -/
structure LvI (l : List Bk) (i : Nat) : Prop where
  ok : ∀ j, j < i → LvOk (l.getD j .zero)
  ord : ∀ j, 0 < j → j < i → (l.getD (j - 1) .zero).a < (l.getD j .zero).a
theorem LvI.nil (l : List Bk) : LvI l 0 := ⟨fun j h => by omega, fun j _ h => by omega⟩
theorem LvI.succ {l : List Bk} {i : Nat} (h : LvI l i) (ho : LvOk (l.getD i .zero)) (ha : 0 < i → (l.getD (i - 1) .zero).a < (l.getD i .zero).a) : LvI l (i + 1) := by
  refine ⟨fun j hj => ?_, fun j h0 hj => ?_⟩
  · by_cases e : j = i
    · rw [e]; exact ho
    · exact h.ok j (by omega)
  · by_cases e : j = i
    · rw [e]; exact ha (by omega)
    · exact h.ord j h0 (by omega)
theorem placed_x (x : Hx) : placed x.hp = x.zs.flatMap FZ ++ (x.ls.flatMap FL ++ x.live) := by
  unfold placed Hx.hp FZ FL
  simp only [List.flatMap_map]

end Go.Proofs.Ytbjlbmofdnkmiaa
