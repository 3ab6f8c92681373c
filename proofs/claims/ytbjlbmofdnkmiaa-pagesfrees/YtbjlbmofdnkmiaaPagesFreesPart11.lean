/-
  OWN TEXTS, bundled: HZ, LBin, LSet0, Sxhl, AppK4, RefZp, RefZn, RefZa, RefW.
-/
import Derived.Test.YtbjlbmofdnkmiaaPagesFreesPart10
import Derived.Test.YtbjlbmofdnkmiaaPagesFreesPart7
import Derived.Test.YtbjlbmofdnkmiaaPagesFreesPart4
import Derived.Test.YtbjlbmofdnkmiaaPagesFreesPart6
import Derived.Test.YtbjlbmofdnkmiaaPagesFreesPart5
import Derived.Test.YtbjlbmofdnkmiaaPagesFreesPart3
import Derived.Test.YtbjlbmofdnkmiaaPagesFreesPart1

/-
  OWN TEXT. A heap of pages whose row of zones may be written.
-/
namespace Go.Proofs.Ytbjlbmofdnkmiaa
open Go Go.RowKit Go.Proofs.Ytbjlbmofdnkmiaa.Kit

theorem splice4 {L : List Value} {o : Nat} (h : o + 4 ≤ L.length) (a b c d : Value) : L.take o ++ [a, b, c, d] ++ L.drop (o + 4) = (((L.set o a).set (o + 1) b).set (o + 2) c).set (o + 3) d := by
  apply List.ext_getElem?
  intro j
  by_cases h1 : j < o
  · rw [List.append_assoc, List.getElem?_append_left (by simp; omega)]
    simp only [List.getElem?_set]
    rw [if_neg (by omega), if_neg (by omega), if_neg (by omega), if_neg (by omega), List.getElem?_take_of_lt h1]
  · by_cases h2 : j < o + 4
    · rw [List.append_assoc, List.getElem?_append_right (by simp; omega), List.getElem?_append_left (by simp; omega)]
      simp only [List.getElem?_set, List.length_set, List.length_take]
      rw [Nat.min_eq_left (by omega)]
      rcases (show j = o ∨ j = o + 1 ∨ j = o + 2 ∨ j = o + 3 by omega) with rfl | rfl | rfl | rfl
      · rw [if_neg (by omega), if_neg (by omega), if_neg (by omega), if_pos rfl, if_pos (by omega)]; simp
      · rw [if_neg (by omega), if_neg (by omega), if_pos rfl, if_pos (by omega)]; simp
      · rw [if_neg (by omega), if_pos rfl, if_pos (by omega)]; simp
      · rw [if_pos rfl, if_pos (by omega)]; simp
    · rw [List.getElem?_append_right (by simp; omega)]
      simp only [List.getElem?_set]
      rw [if_neg (by omega), if_neg (by omega), if_neg (by omega), if_neg (by omega), List.getElem?_drop]
      congr 1
      simp
      omega

theorem own_set4 {w : World} {B n cap g : Nat} {e t : TypeId} {l : List Q4} (h : w.ownsRow B e 4 (.slice (some ⟨g, 0, none⟩) n cap) n (c4 l)) {i : Nat} (hi : i < n) (x : Q4) (hx : x.One) (hs : szB Try.prog t = some 4) :
    ∃ W, (storeVar t ⟨g, 0 + i * 4, none⟩ (.agg #[x.a, x.b, x.c, x.d])).run Try.prog w = .ok () W ∧ But g w W ∧ W.ownsRow B e 4 (.slice (some ⟨g, 0, none⟩) n cap) n (c4 (l.set i x)) := by
  have hl := c4owns_len h
  rcases h.2 with ⟨h', _⟩ | ⟨g', cap', cur, h', hB, hg, hc, hm, hsz, htake⟩
  · cases h'
  · simp only [Value.slice.injEq, Option.some.injEq, Addr.mk.injEq, true_and, and_true] at h'
    obtain ⟨rfl, rfl⟩ := h'
    have hfit : i * 4 + 4 ≤ cur.toList.length := by simp; omega
    have h1 : ∀ v ∈ [x.a, x.b, x.c, x.d], v.oneCell' = true := by
      intro v hv
      obtain ⟨p, q, r, s⟩ := hx
      simp only [List.mem_cons, List.not_mem_nil, or_false] at hv
      rcases hv with rfl | rfl | rfl | rfl <;> assumption
    have hrun := run_storeCells_at (P := Try.prog) g (i * 4) e [x.a, x.b, x.c, x.d] 0 cur w hg (by simp; omega) h1
    unfold szB at hs
    simp only [Option.map_eq_some_iff] at hs
    obtain ⟨inf, hi', hn⟩ := hs
    have hsv := run_storeVar' (P := Try.prog) (a := ⟨g, i * 4, none⟩) (v := .agg #[x.a, x.b, x.c, x.d]) hi' (by rw [hn]; rfl) hrun
    rw [Nat.zero_add]
    refine ⟨_, hsv, ⟨rfl, rfl, rfl, by simp [World.setRow], fun k _ hk => by simp [World.setRow, Array.getElem?_modify, Ne.symm hk]⟩, ?_⟩
    rw [← c4_set l i (by omega) x]
    refine ⟨by simp [length_c4]; omega, .inr ⟨g, cap, (cur.toList.take (i * 4) ++ [x.a, x.b, x.c, x.d] ++ cur.toList.drop (i * 4 + 4)).toArray, rfl, hB, by simp [World.setRow, Array.getElem?_modify, hg], hc, hm, ?_, ?_⟩⟩
    · simp; omega
    · rw [splice4 hfit x.a x.b x.c x.d]
      simp only [List.take_set, htake]

theorem blks_lt {w : World} {ao : Option Addr} {n : Nat} {l : List Bk} (h : Blks w ao n l) (h0 : 0 < l.length) : ∀ a, ao = some a → a.block < w.heap.size := by
  intro a ha
  obtain ⟨b, off, e, hc, _⟩ := h.at_ 0 h0
  rw [e] at ha
  cases ha
  exact World.block_lt_of_cell? w _ hc
theorem nums_lt {w : World} {ao : Option Addr} {n : Nat} {l : List Int} (h : Nums w ao n l) (h0 : 0 < l.length) : ∀ a, ao = some a → a.block < w.heap.size := by
  intro a ha
  obtain ⟨b, off, e, hc⟩ := h.at_ 0 h0
  rw [e] at ha
  cases ha
  exact World.block_lt_of_cell? w _ hc
theorem blks_but {w w' : World} {b : Nat} {ao : Option Addr} {n : Nat} {l : List Bk} (h : Blks w ao n l) (hb : But b w w') (hne : 0 < l.length → ∀ a, ao = some a → a.block ≠ b) : Blks w' ao n l := by
  by_cases h0 : 0 < l.length
  · exact hb.blks h (hne h0)
  · exact ⟨h.len, h.reach, fun i hi => absurd hi (by omega)⟩
theorem nums_but {w w' : World} {b : Nat} {ao : Option Addr} {n : Nat} {l : List Int} (h : Nums w ao n l) (hb : But b w w') (hne : 0 < l.length → ∀ a, ao = some a → a.block ≠ b) : Nums w' ao n l := by
  by_cases h0 : 0 < l.length
  · exact hb.nums h (hne h0)
  · exact ⟨h.len, h.reach, fun i hi => absurd hi (by omega)⟩
/-- No element of the heap lies in block b. -/
structure Away (b : Nat) (y : Hx) : Prop where
  f : ∀ z ∈ y.zs, 0 < z.z.free.length → ∀ a, z.fo = some a → a.block ≠ b
  t : ∀ z ∈ y.zs, 0 < z.z.types.length → ∀ a, z.to_ = some a → a.block ≠ b
  m : 0 < y.mins.length → ∀ a, y.mo = some a → a.block ≠ b
  l : 0 < y.ls.length → ∀ a, y.lo = some a → a.block ≠ b
  p : ∀ l ∈ y.ls, 0 < l.l.pages.length → ∀ a, l.po = some a → a.block ≠ b
  v : 0 < y.live.length → ∀ a, y.vo = some a → a.block ≠ b
theorem away_old {w : World} {b : Nat} {y : Hx} (h : y.At w) (hb : w.heap.size ≤ b) : Away b y := by
  refine ⟨fun z hz h0 a ha => ?_, fun z hz h0 a ha => ?_, fun h0 a ha => ?_, fun h0 a ha => ?_, fun l hl h0 a ha => ?_, fun h0 a ha => ?_⟩
  · have := blks_lt (h.zones.at_ z hz).free h0 a ha; omega
  · have := nums_lt (h.zones.at_ z hz).types h0 a ha; omega
  · have := nums_lt h.mins h0 a ha; omega
  · obtain ⟨c, off, e, hc, _⟩ := h.lists.cells 0 (by simpa using h0)
    rw [e] at ha
    cases ha
    have := World.block_lt_of_cell? w _ hc
    dsimp only at this ⊢
    omega
  · have := nums_lt (h.lists.at_ l hl) h0 a ha; omega
  · have := blks_lt h.live h0 a ha; omega
/-- A heap that can be read, and whose row of zones, in block gz, may be written. -/
structure HZ (w : World) (B gz : Nat) (y : Hx) : Prop where
  oz : w.ownsRow B 44 4 (.slice y.zo y.zn y.zc) y.zn (c4 (y.zs.map Zc.q))
  ez : y.zo = some ⟨gz, 0, none⟩
  at_ : y.At w
  aw : Away gz y
  gB : B ≤ gz
theorem HZ.lt {w : World} {B gz : Nat} {y : Hx} (h : HZ w B gz y) (hn : 0 < y.zn) : gz < w.heap.size := by
  have := h.oz
  rw [h.ez] at this
  obtain ⟨g, e, _, hl⟩ := owns_head this hn
  cases e
  exact hl
theorem HZ.below {w w' : World} {B gz : Nat} {y : Hx} (h : HZ w B gz y) (hb : Below w.heap.size w w') : HZ w' B gz y :=
  ⟨owns_below h.oz hb (Nat.le_refl _), h.ez, h.at_.below hb, h.aw, h.gB⟩
/-- The same heap with another zone. -/
def Kit.Hx.setZ (y : Hx) (i : Nat) (z : Zc) : Hx := { y with zs := y.zs.set i z }
theorem Away.setZ {b i : Nat} {y : Hx} {z : Zc} (h : Away b y) (h1 : ∀ a, z.fo = some a → a.block ≠ b) (h2 : ∀ a, z.to_ = some a → a.block ≠ b) : Away b (y.setZ i z) := by
  have hmem : ∀ c ∈ y.zs.set i z, c ∈ y.zs ∨ c = z := fun c hc => List.mem_or_eq_of_mem_set hc
  refine ⟨fun c hc h0 => ?_, fun c hc h0 => ?_, h.m, h.l, h.p, h.v⟩
  · rcases hmem c hc with hc | rfl
    · exact h.f c hc h0
    · exact h1
  · rcases hmem c hc with hc | rfl
    · exact h.t c hc h0
    · exact h2
theorem HZ.set {w w' : World} {B gz : Nat} {y : Hx} (h : HZ w B gz y) {i : Nat} {z : Zc} (hz : z.At w) (h1 : ∀ a, z.fo = some a → a.block ≠ gz) (h2 : ∀ a, z.to_ = some a → a.block ≠ gz)
    (hb : But gz w w') (ho : w'.ownsRow B 44 4 (.slice y.zo y.zn y.zc) y.zn (c4 ((y.zs.map Zc.q).set i z.q))) : HZ w' B gz (y.setZ i z) := by
  have hm : (y.zs.set i z).map Zc.q = (y.zs.map Zc.q).set i z.q := by rw [List.map_set]
  have hmem : ∀ c ∈ y.zs.set i z, c ∈ y.zs ∨ c = z := fun c hc => List.mem_or_eq_of_mem_set hc
  refine ⟨by show w'.ownsRow B 44 4 _ _ (c4 ((y.zs.set i z).map Zc.q)); rw [hm]; exact ho, h.ez, ⟨⟨?_, h.at_.zones.reach, ?_, ?_⟩, nums_but h.at_.mins hb h.aw.m, ⟨h.at_.lists.len, h.at_.lists.reach, ?_, fun l hl => nums_but (h.at_.lists.at_ l hl) hb (h.aw.p l hl)⟩, blks_but h.at_.live hb h.aw.v⟩, h.aw.setZ h1 h2, h.gB⟩
  · show (y.zs.set i z).length = _; rw [List.length_set]; exact h.at_.zones.len
  · show C4At w' y.zo ((y.zs.set i z).map Zc.q); rw [hm]; exact c4_of_owns ho
  · intro c hc
    rcases hmem c hc with hc | rfl
    · exact ⟨blks_but (h.at_.zones.at_ c hc).free hb (h.aw.f c hc), nums_but (h.at_.zones.at_ c hc).types hb (h.aw.t c hc)⟩
    · exact hb.zn hz h1 h2
  · show C4At w' y.lo (y.ls.map Lc.q)
    by_cases h0 : 0 < y.ls.length
    · exact h.at_.lists.cells.but hb (h.aw.l h0)
    · intro i hi; rw [List.length_map] at hi; omega

/-- A block goes back to its zone: plain. -/
def backH (H : Hp) (p o : Int) : Hp := { H with zones := H.zones.set (zIdx H p) (backZ (H.zones.getD (zIdx H p) ⟨0, 0, [], []⟩) p o) }
/-- .. and may: its zone may be, and has none of its pages. -/
structure CanBack (H : Hp) (p o : Int) : Prop where
  n : H.zones.length = 2
  m : ZMay (H.zones.getD (zIdx H p) ⟨0, 0, [], []⟩)
  i : blkIn (H.zones.getD (zIdx H p) ⟨0, 0, [], []⟩).f (H.zones.getD (zIdx H p) ⟨0, 0, [], []⟩).t p o
  v : ¬ ovlP (H.zones.getD (zIdx H p) ⟨0, 0, [], []⟩).free p o

theorem hp_zone (y : Hx) (i : Nat) : y.hp.zones.getD i ⟨0, 0, [], []⟩ = (y.zs.getD i .zero).z := zoneOf_hp y i
theorem setZ_hp {y : Hx} {p o : Int} {z : Zc} (h : z.z = backZ (y.zs.getD (zIdx y.hp p) .zero).z p o) : (y.setZ (zIdx y.hp p) z).hp = backH y.hp p o := by
  unfold backH Kit.Hx.setZ
  rw [hp_zone, ← h]
  show Hp.mk ((y.zs.set _ z).map (·.z)) _ _ _ _ = _
  rw [List.map_set]
  rfl
theorem but_start (g : Nat) {w w' : World} (h : ({ w with drawn := w.drawn + 1 } : World) = w') : But g w w' := by
  subst h
  exact But.of_below ((Below.refl w.heap.size w).drew)

theorem at_but {w w' : World} {b : Nat} {y : Hx} (h : y.At w) (hb : But b w w') (hbz : 0 < y.zs.length → ∀ a, y.zo = some a → a.block ≠ b) (ha : Away b y) : y.At w' := by
  refine ⟨⟨h.zones.len, h.zones.reach, ?_, fun z hz => ⟨blks_but (h.zones.at_ z hz).free hb (ha.f z hz), nums_but (h.zones.at_ z hz).types hb (ha.t z hz)⟩⟩, nums_but h.mins hb ha.m, ⟨h.lists.len, h.lists.reach, ?_, fun l hl => nums_but (h.lists.at_ l hl) hb (ha.p l hl)⟩, blks_but h.live hb ha.v⟩
  · by_cases h0 : 0 < y.zs.length
    · exact h.zones.cells.but hb (hbz h0)
    · intro i hi; rw [List.length_map] at hi; omega
  · by_cases h0 : 0 < y.ls.length
    · exact h.lists.cells.but hb (ha.l h0)
    · intro i hi; rw [List.length_map] at hi; omega
theorem HZ.but {w w' : World} {B gz b : Nat} {y : Hx} (h : HZ w B gz y) (hb : But b w w') (hne : b ≠ gz) (ha : Away b y) : HZ w' B gz y := by
  refine ⟨?_, h.ez, at_but h.at_ hb (fun _ a e => by rw [h.ez] at e; cases e; exact Ne.symm hne) ha, h.aw, h.gB⟩
  have ho := h.oz
  rw [h.ez] at ho ⊢
  exact own_but ho hb (Ne.symm hne)

end Go.Proofs.Ytbjlbmofdnkmiaa

/-
  OWN TEXT. Contracts of slices.BinarySearchFunc over lists of pages by their owners, and of pages.listAt (written by sxbin.py).
-/
namespace Go.Proofs.Ytbjlbmofdnkmiaa
open Go Go.RowKit Go.Proofs.Ytbjlbmofdnkmiaa.Kit

/-- Where a list is, or would be. -/
def AtL (l : List Ls) (x : Ls) (i : Nat) (b : Bool) : Prop :=
  i ≤ l.length ∧ (∀ j, j < i → aheadL (l.getD j .zero) x) ∧ (∀ j, i ≤ j → j < l.length → ¬ aheadL (l.getD j .zero) x) ∧ (b = true ↔ i < l.length ∧ ((l.getD i .zero).c = x.c ∧ (l.getD i .zero).z = x.z ∧ (l.getD i .zero).t = x.t))
/-- Lists stand in their order. -/
def RiseL (ls : List Lc) : Prop := ∀ i, 0 < i → i < ls.length → aheadL (ls.getD (i - 1) .zero).l (ls.getD i .zero).l
theorem ahead_trans {a b c : Ls} (h1 : aheadL a b) (h2 : aheadL b c) : aheadL a c := by
  unfold aheadL at *
  omega
theorem rise_two {ls : List Lc} (h : RiseL ls) : ∀ (d i : Nat), i + d + 1 < ls.length → aheadL (ls.getD i .zero).l (ls.getD (i + d + 1) .zero).l
  | 0, i, hi => by
    have := h (i + 1) (by omega) hi
    rwa [show i + 1 - 1 = i by omega] at this
  | d + 1, i, hi => by
    have h1 := rise_two h d i (by omega)
    have h2 := h (i + d + 2) (by omega) hi
    rw [show i + d + 2 - 1 = i + d + 1 by omega] at h2
    exact ahead_trans h1 h2
theorem rise_to {ls : List Lc} (h : RiseL ls) {k m : Nat} {x : Ls} (hk : k ≤ m) (hm : m < ls.length) (hx : aheadL (ls.getD m .zero).l x) : aheadL (ls.getD k .zero).l x := by
  by_cases e : k = m
  · subst e; exact hx
  · have := rise_two h (m - k - 1) k (by omega)
    rw [show k + (m - k - 1) + 1 = m by omega] at this
    exact ahead_trans this hx
theorem getD_l (ls : List Lc) (k : Nat) : (ls.map (·.l)).getD k .zero = (ls.getD k .zero).l := by
  simp only [List.getD_eq_getElem?_getD, List.getElem?_map]
  cases ls[k]? <;> rfl

set_option maxRecDepth 10000 in
set_option maxHeartbeats 4000000 in
theorem lBin_any (w : World) (lo : Option Addr) (ln lcap : Nat) (ls : List Lc) (x : Ls) (pv : Value) (h : Lsts w lo ln ls) (hord : RiseL ls) :
    Calls Try.prog 102 #[.slice lo ln lcap, .agg #[.int .i64 x.c, .int .i64 x.z, .int .i64 x.t, pv], .func (.func 65) #[] #[]] w fun e w' => (∃ (i : Nat) (b : Bool), e = .returned (.tuple #[.int .i64 (i : Nat), .bool b]) ∧ AtL (ls.map (·.l)) x i b) ∧ Below w.heap.size w w' := by
  have B0 := Below.refl w.heap.size w
  refine sx_enter (args := [_, _, _]) 49 Try.func102 rfl rfl rfl ?_
  intro A f
  refine wp_seq ?_
  refine sx_list ?_
  refine l_box f rfl rfl rfl rfl rfl ?_; clear f A; intro b1 W2 eb1 hb3 rb1 A f; dsimp only [Value.cells] at rb1
  have z_B0_b1 := B0.size; rw [eb1] at z_B0_b1
  replace B0 := Below.next B0 hb3
  refine l_do f rfl rfl rfl (y_assign rfl rfl) ?_; clear f A; intro A f
  refine l_do f rfl rfl rfl (y_assign rfl rfl) ?_; clear f A; intro A f
  refine wpList_nil ?_
  refine x_tn ?_
  refine wp_seq ?_
  refine sx_list ?_
  refine l_do f rfl rfl rfl (y_move rfl rfl) ?_; clear f A; intro A f
  refine l_do f rfl rfl rfl (y_len rfl rfl (sl rfl)) ?_; clear f A; intro A f
  refine l_do f rfl rfl rfl (y_assign rfl rfl) ?_; clear f A; intro A f
  refine wpList_nil ?_
  refine x_tn ?_
  refine wp_seq ?_
  refine sx_list ?_
  refine l_do f rfl rfl rfl (y_move rfl rfl) ?_; clear f A; intro A f
  refine l_do f rfl rfl rfl (y_assign rfl rfl) ?_; clear f A; intro A f
  refine l_do f rfl rfl rfl (y_assign rfl rfl) ?_; clear f A; intro A f
  refine wpList_nil ?_
  refine x_tn ?_
  refine wp_seq ?_
  refine wp_block ?_
  have hl := h.len
  have hr := h.reach
  refine x_loop (fun n A W => ∃ i j : Nat, n = j - i ∧ i ≤ j ∧ j ≤ ln ∧ Fr A 49 [(0, .slice lo ln lcap), (2, .func (.func 65) #[] #[]), (4, .pointer (some ⟨b1, 0, none⟩)), (8, .int .i64 (ln : Nat)), (9, .int .i64 (i : Nat)), (10, .int .i64 (j : Nat))] ∧ Below w.heap.size w W ∧ (∀ k, k < i → aheadL (ls.getD k .zero).l x) ∧ (∀ k, j ≤ k → k < ln → ¬ aheadL (ls.getD k .zero).l x) ∧ W.heap[b1]? = some (.cells #[.int .i64 x.c, .int .i64 x.z, .int .i64 x.t, pv] 57 (0, 0))) (n0 := ln) (⟨0, ln, rfl, Nat.zero_le _, Nat.le_refl _, f.sub ⟨rfl, rfl, rfl, rfl, rfl, rfl, trivial⟩, B0, fun k hk => absurd hk (Nat.not_lt_zero k), fun k h1 h2 => by omega, rb1⟩) ?_
  clear f A
  clear B0 rb1
  rintro n A W4 ⟨i, j, hn, hij, hj, f, B0, hI, hJ, rb1⟩
  refine wp_seq ?_
  refine wp_seq ?_
  refine sx_list ?_
  refine l_do f rfl rfl rfl (y_move rfl rfl) ?_; clear f A; intro A f
  refine l_do f rfl rfl rfl (y_move rfl rfl) ?_; clear f A; intro A f
  refine l_if _ f rfl rfl rfl (y_lss rfl rfl rfl) ?_ ?_
  · clear f A; intro c5 A f
    refine wpList_nil ?_
    refine x_tn ?_
    refine x_condT f rfl ?_
    refine wp_skip ?_
    refine x_tn ?_
    refine wp_block ?_
    refine wp_seq ?_
    refine sx_list ?_
    refine l_do f rfl rfl rfl (y_move rfl rfl) ?_; clear f A; intro A f
    refine l_do f rfl rfl rfl (y_move rfl rfl) ?_; clear f A; intro A f
    refine l_do f rfl rfl rfl (y_add rfl rfl rfl rfl (by omega)) ?_; clear f A; intro A f
    refine l_do f rfl rfl rfl (y_conv rfl rfl (by kernel_rfl) (by kernel_rfl) (wrap_u (by omega) (by omega))) ?_; clear f A; intro A f
    obtain ⟨m, hm⟩ : ∃ m : Nat, ((i : Int) + (j : Int)) / 2 = (m : Int) := ⟨(i + j) / 2, by omega⟩
    refine l_do f rfl rfl rfl (y_half rfl rfl hm) ?_; clear f A; intro A f
    refine l_do f rfl rfl rfl (y_conv rfl rfl (by kernel_rfl) (by kernel_rfl) (wrap_i (by omega) (by omega))) ?_; clear f A; intro A f
    refine l_do f rfl rfl rfl (y_assign rfl rfl) ?_; clear f A; intro A f
    refine wpList_nil ?_
    refine x_tn ?_
    refine wp_seq ?_
    refine sx_quiet (by kernel_rfl) (by kernel_rfl) ?_
    refine q_do f rfl rfl rfl (y_move rfl rfl) ?_; clear f A; intro A f
    refine q_do f rfl rfl rfl (y_move rfl rfl) ?_; clear f A; intro A f
    refine q_do f rfl rfl rfl (y_move rfl rfl) ?_; clear f A; intro A f
    obtain ⟨gl, ol, lcl, lzl, ltl, lpl, pol, pnl, pcl, hal, c0l, c1l, c2l, c3l, hatl, hXl⟩ := h.at (m) (by omega)
    replace c0l := St.of c0l; replace c1l := St.of c1l; replace c2l := St.of c2l; replace c3l := St.of c3l
    refine q_do f rfl rfl rfl (y_index rfl rfl (by first | rfl | assumption) rfl (es rfl) (by omega)) ?_; clear f A; intro A f
    refine q_do f rfl rfl rfl (y_loadN (vs := [_, _, _, _]) rfl rfl (ag rfl) rfl ⟨(by first | assumption | exact St.q c0l B0 | exact St.q c1l B0 | exact St.q c2l B0 | exact St.q c3l B0), (by first | assumption | exact St.q c0l B0 | exact St.q c1l B0 | exact St.q c2l B0 | exact St.q c3l B0), (by first | assumption | exact St.q c0l B0 | exact St.q c1l B0 | exact St.q c2l B0 | exact St.q c3l B0), (by first | assumption | exact St.q c0l B0 | exact St.q c1l B0 | exact St.q c2l B0 | exact St.q c3l B0), trivial⟩) ?_; clear f A; intro A f
    refine q_do f rfl rfl rfl (y_loadN (vs := [_, _, _, _]) rfl rfl (ag rfl) rfl (rowls (rowq rb1) _ _ ⟨rfl, rfl, rfl, rfl, trivial⟩)) ?_; clear f A; intro A f
    refine q_call f rfl rfl rfl (IsCall.mk' (cap := []) rfl rfl rfl) (pl rfl) (c_cl (fun wx => pByOwner_any wx ⟨lcl, lzl, ltl, lpl⟩ x _ _)) ?_; clear f A; intro A f
    refine q_if _ f rfl rfl rfl (y_lss rfl rfl rfl) ?_ ?_
    · clear f A; intro c6 A f
      refine wpQuiet_nil ?_; intro W8 hb7; replace B0 := Below.next B0 hb7; replace rb1 := row_next rb1 hb7
      refine x_tn ?_
      refine x_condT f rfl ?_
      refine sx_list ?_
      refine l_do f rfl rfl rfl (y_move rfl rfl) ?_; clear f A; intro A f
      refine l_do f rfl rfl rfl (y_add rfl rfl rfl rfl (by omega)) ?_; clear f A; intro A f
      refine l_do f rfl rfl rfl (y_assign rfl rfl) ?_; clear f A; intro A f
      refine wpList_nil ?_
      refine x_bn ?_
      refine x_tn ?_
      exact ⟨j - (m + 1), by omega, m + 1, j, rfl, by omega, by omega, f.sub ⟨rfl, rfl, rfl, rfl, rfl, rfl, trivial⟩, B0, fun k hk => rise_to (m := m) hord (by omega) (by omega) (by rw [hXl.out]; exact (ownC_neg _ _).1 c6), hJ, rb1⟩
    · clear f A; intro c6 A f
      refine wpQuiet_nil ?_; intro W10 hb9; replace B0 := Below.next B0 hb9; replace rb1 := row_next rb1 hb9
      refine x_tn ?_
      refine x_condF f rfl ?_
      refine sx_list ?_
      refine l_do f rfl rfl rfl (y_move rfl rfl) ?_; clear f A; intro A f
      refine l_do f rfl rfl rfl (y_assign rfl rfl) ?_; clear f A; intro A f
      refine wpList_nil ?_
      refine x_bn ?_
      refine x_tn ?_
      exact ⟨m - i, by omega, i, m, rfl, by omega, by omega, f.sub ⟨rfl, rfl, rfl, rfl, rfl, rfl, trivial⟩, B0, hI, fun k h1 h2 h3 => c6 ((ownC_neg _ _).2 (by have := rise_to hord h1 (by omega) h3; rwa [hXl.out] at this)), rb1⟩
  · clear f A; intro c5 A f
    refine wpList_nil ?_
    refine x_tn ?_
    refine x_condF f rfl ?_
    refine wp_exit ?_
    refine x_te ?_
    refine x_te ?_
    refine x_bh ?_
    refine x_tn ?_
    refine wp_seq ?_
    refine sx_quiet (by kernel_rfl) (by kernel_rfl) ?_
    refine q_do f rfl rfl rfl (y_move rfl rfl) ?_; clear f A; intro A f
    refine q_do f rfl rfl rfl (y_move rfl rfl) ?_; clear f A; intro A f
    refine q_do f rfl rfl rfl (y_move rfl rfl) ?_; clear f A; intro A f
    refine q_if _ f rfl rfl rfl (y_lss rfl rfl rfl) ?_ ?_
    · clear f A; intro c11 A f
      refine q_do f rfl rfl rfl (y_move rfl rfl) ?_; clear f A; intro A f
      refine q_do f rfl rfl rfl (y_move rfl rfl) ?_; clear f A; intro A f
      refine q_do f rfl rfl rfl (y_move rfl rfl) ?_; clear f A; intro A f
      refine q_do f rfl rfl rfl (y_move rfl rfl) ?_; clear f A; intro A f
      obtain ⟨gk, ok, lck, lzk, ltk, lpk, pok, pnk, pck, hak, c0k, c1k, c2k, c3k, hatk, hXk⟩ := h.at (i) (by omega)
      replace c0k := St.of c0k; replace c1k := St.of c1k; replace c2k := St.of c2k; replace c3k := St.of c3k
      refine q_do f rfl rfl rfl (y_index rfl rfl (by first | rfl | assumption) rfl (es rfl) (by omega)) ?_; clear f A; intro A f
      refine q_do f rfl rfl rfl (y_loadN (vs := [_, _, _, _]) rfl rfl (ag rfl) rfl ⟨(by first | assumption | exact St.q c0k B0 | exact St.q c1k B0 | exact St.q c2k B0 | exact St.q c3k B0), (by first | assumption | exact St.q c0k B0 | exact St.q c1k B0 | exact St.q c2k B0 | exact St.q c3k B0), (by first | assumption | exact St.q c0k B0 | exact St.q c1k B0 | exact St.q c2k B0 | exact St.q c3k B0), (by first | assumption | exact St.q c0k B0 | exact St.q c1k B0 | exact St.q c2k B0 | exact St.q c3k B0), trivial⟩) ?_; clear f A; intro A f
      refine q_do f rfl rfl rfl (y_loadN (vs := [_, _, _, _]) rfl rfl (ag rfl) rfl (rowls (rowq rb1) _ _ ⟨rfl, rfl, rfl, rfl, trivial⟩)) ?_; clear f A; intro A f
      refine q_call f rfl rfl rfl (IsCall.mk' (cap := []) rfl rfl rfl) (pl rfl) (c_cl (fun wx => pByOwner_any wx ⟨lck, lzk, ltk, lpk⟩ x _ _)) ?_; clear f A; intro A f
      refine q_if _ f rfl rfl rfl (y_eql rfl rfl rfl) ?_ ?_
      · clear f A; intro c12 A f
        refine q_do f rfl rfl rfl (y_pick rfl rfl rfl) ?_; clear f A; intro A f
        refine q_do f rfl rfl rfl (y_assign rfl rfl) ?_; clear f A; intro A f
        refine q_do f rfl rfl rfl (y_assign rfl rfl) ?_; clear f A; intro A f
        refine wpQuiet_nil ?_; intro W14 hb13; replace B0 := Below.next B0 hb13; replace rb1 := row_next rb1 hb13
        refine x_tn ?_
        refine wp_ret ?_
        refine x_ret2 f rfl rfl rfl ?_
        -- return 0: ¬c5@17 c11@38 c12@47
        have eij : i = j := by omega
        subst eij
        exact ⟨⟨i, true, rfl, ⟨by rw [List.length_map]; omega, fun k hk => by rw [getD_l]; exact hI k hk, fun k h1 h2 => by rw [List.length_map] at h2; rw [getD_l]; exact hJ k h1 (by omega), fun _ => ⟨by rw [List.length_map]; omega, by rw [getD_l, hXk.out]; exact (ownC_zero _ _).1 c12⟩, fun _ => rfl⟩⟩, B0⟩
      · clear f A; intro c12 A f
        refine q_do f rfl rfl rfl (y_pick rfl rfl rfl) ?_; clear f A; intro A f
        refine q_do f rfl rfl rfl (y_assign rfl rfl) ?_; clear f A; intro A f
        refine q_do f rfl rfl rfl (y_assign rfl rfl) ?_; clear f A; intro A f
        refine wpQuiet_nil ?_; intro W16 hb15; replace B0 := Below.next B0 hb15; replace rb1 := row_next rb1 hb15
        refine x_tn ?_
        refine wp_ret ?_
        refine x_ret2 f rfl rfl rfl ?_
        -- return 1: ¬c5@17 c11@38 ¬c12@47
        have eij : i = j := by omega
        subst eij
        exact ⟨⟨i, false, rfl, ⟨by rw [List.length_map]; omega, fun k hk => by rw [getD_l]; exact hI k hk, fun k h1 h2 => by rw [List.length_map] at h2; rw [getD_l]; exact hJ k h1 (by omega), fun h => (by cases h), fun h => by have h1 := h.2; rw [getD_l, hXk.out] at h1; exact absurd ((ownC_zero _ _).2 h1) c12⟩⟩, B0⟩
    · clear f A; intro c11 A f
      refine q_do f rfl rfl rfl (y_move rfl rfl) ?_; clear f A; intro A f
      refine q_no f rfl rfl rfl ?_; clear f A; intro A f
      refine q_no f rfl rfl rfl ?_; clear f A; intro A f
      refine q_no f rfl rfl rfl ?_; clear f A; intro A f
      refine q_no f rfl rfl rfl ?_; clear f A; intro A f
      refine q_no f rfl rfl rfl ?_; clear f A; intro A f
      refine q_no f rfl rfl rfl ?_; clear f A; intro A f
      refine q_no f rfl rfl rfl ?_; clear f A; intro A f
      refine q_no f rfl rfl rfl ?_; clear f A; intro A f
      refine q_do f rfl rfl rfl (y_pick rfl rfl rfl) ?_; clear f A; intro A f
      refine q_do f rfl rfl rfl (y_assign rfl rfl) ?_; clear f A; intro A f
      refine q_do f rfl rfl rfl (y_assign rfl rfl) ?_; clear f A; intro A f
      refine wpQuiet_nil ?_; intro W18 hb17; replace B0 := Below.next B0 hb17; replace rb1 := row_next rb1 hb17
      refine x_tn ?_
      refine wp_ret ?_
      refine x_ret2 f rfl rfl rfl ?_
      -- return 2: ¬c5@17 ¬c11@38
      have eij : i = j := by omega
      subst eij
      exact ⟨⟨i, false, rfl, ⟨by rw [List.length_map]; omega, fun k hk => by rw [getD_l]; exact hI k hk, fun k h1 h2 => by rw [List.length_map] at h2; rw [getD_l]; exact hJ k h1 (by omega), fun h => (by cases h), fun h => by have h1 := h.1; rw [List.length_map] at h1; omega⟩⟩, B0⟩

set_option maxRecDepth 10000 in
set_option maxHeartbeats 4000000 in
theorem pListAt_any (w : World) (y : Hx) (x : Ls) (pv : Value) (hy : y.At w) (hord : RiseL y.ls) :
    Calls Try.prog 86 #[.agg #[.slice y.zo y.zn y.zc, .slice y.mo y.mn y.mc, .int .i64 y.cpus, .slice y.lo y.ln y.lc, .slice y.vo y.vn y.vc], .agg #[.int .i64 x.c, .int .i64 x.z, .int .i64 x.t, pv]] w fun e w' => (∃ (i : Nat) (b : Bool), e = .returned (.tuple #[.int .i64 (i : Nat), .bool b]) ∧ AtL y.hp.lists x i b) ∧ Below w.heap.size w w' := by
  have B0 := Below.refl w.heap.size w
  refine sx_enter (args := [_, _]) 12 Try.func86 rfl rfl rfl ?_
  intro A f
  refine wp_seq ?_
  refine sx_list ?_
  refine l_box f rfl rfl rfl rfl rfl ?_; clear f A; intro b1 W2 eb1 hb3 rb1 A f; dsimp only [Value.cells] at rb1
  have z_B0_b1 := B0.size; rw [eb1] at z_B0_b1
  replace B0 := Below.next B0 hb3
  refine l_box f rfl rfl rfl rfl rfl ?_; clear f A; intro b4 W5 eb4 hb6 rb4 A f; dsimp only [Value.cells] at rb4
  have o_b1_b4 : b1 < b4 := by have := row_lt rb1; omega
  have z_B0_b4 := B0.size; rw [eb4] at z_B0_b4
  replace B0 := Below.next B0 hb6; replace rb1 := row_next rb1 hb6
  refine l_do f rfl rfl rfl (y_assign rfl rfl) ?_; clear f A; intro A f
  refine l_do f rfl rfl rfl (y_assign rfl rfl) ?_; clear f A; intro A f
  refine wpList_nil ?_
  refine x_tn ?_
  refine wp_seq ?_
  refine sx_list ?_
  refine l_do f rfl rfl rfl (y_field rfl rfl (fo rfl)) ?_; clear f A; intro A f
  refine l_do f rfl rfl rfl (y_load1 rfl rfl (ag rfl) (rowl (rowq rb1) rfl)) ?_; clear f A; intro A f
  refine l_do f rfl rfl rfl (y_loadN (vs := [_, _, _, _]) rfl rfl (ag rfl) rfl (rowls (rowq rb4) _ _ ⟨rfl, rfl, rfl, rfl, trivial⟩)) ?_; clear f A; intro A f
  refine l_call f rfl rfl rfl (IsCall.mk' (cap := []) rfl rfl rfl) (pl rfl) (lBin_any _ y.lo y.ln y.lc y.ls x pv (hy.below B0).lists hord) ?_
  clear f A
  rintro _ W7 ⟨⟨i, b, rfl, hA⟩, hb8⟩
  refine ⟨_, rfl, ?_⟩
  intro A f
  replace B0 := Below.next B0 hb8; replace rb1 := row_next rb1 hb8; replace rb4 := row_next rb4 hb8
  refine l_do f rfl rfl rfl (y_ext rfl rfl rfl) ?_; clear f A; intro A f
  refine l_do f rfl rfl rfl (y_ext rfl rfl rfl) ?_; clear f A; intro A f
  refine l_do f rfl rfl rfl (y_assign rfl rfl) ?_; clear f A; intro A f
  refine l_do f rfl rfl rfl (y_assign rfl rfl) ?_; clear f A; intro A f
  refine wpList_nil ?_
  refine x_tn ?_
  refine wp_ret ?_
  refine x_ret2 f rfl rfl rfl ?_
  -- return 0: 
  exact ⟨⟨i, b, rfl, hA⟩, B0⟩

end Go.Proofs.Ytbjlbmofdnkmiaa

/-
  OWN TEXT. Lists of pages by their owners: the pages of one are others: plain; and what a heap is without its row of lists.
-/
namespace Go.Proofs.Ytbjlbmofdnkmiaa
open Go Go.RowKit Go.Proofs.Ytbjlbmofdnkmiaa.Kit

instance aheadDec (a b : Ls) : Decidable (aheadL a b) := by unfold aheadL; infer_instance
/-- The pages of a list are these: plain. -/
def setLs (l : List Ls) (x : Ls) : List Ls :=
  l.filter (fun a => decide (aheadL a x)) ++ ((if x.pages.length = 0 then [] else [x]) ++ l.filter (fun a => decide (aheadL x a)))
/-- Lists stand in their order: plain. -/
def RiseP (l : List Ls) : Prop := l.Pairwise aheadL
theorem riseP_of {ls : List Lc} (h : RiseL ls) : RiseP (ls.map (·.l)) := by
  unfold RiseP
  rw [List.pairwise_map, List.pairwise_iff_getElem]
  intro i j hi hj hij
  have := rise_two h (j - i - 1) i (by omega)
  rw [show i + (j - i - 1) + 1 = j by omega] at this
  simpa [List.getD_eq_getElem?_getD, hi, hj] using this
theorem ahead_asymm {a b : Ls} (h : aheadL a b) : ¬ aheadL b a := by unfold aheadL at *; omega
theorem ahead_same {a b c : Ls} (h : a.c = b.c ∧ a.z = b.z ∧ a.t = b.t) : (aheadL a c ↔ aheadL b c) ∧ (aheadL c a ↔ aheadL c b) := by
  unfold aheadL
  omega
theorem ahead_three (a b : Ls) : aheadL a b ∨ aheadL b a ∨ (a.c = b.c ∧ a.z = b.z ∧ a.t = b.t) := by
  unfold aheadL
  omega

theorem filter_none {α : Type} {p : α → Bool} {l : List α} (h : ∀ a ∈ l, p a = false) : l.filter p = [] := by
  rw [List.filter_eq_nil_iff]
  intro a ha
  rw [h a ha]
  simp
theorem getD_take_mem {l : List Ls} {i : Nat} {a : Ls} (h : a ∈ l.take i) : ∃ j, j < i ∧ j < l.length ∧ l.getD j .zero = a := by
  obtain ⟨j, hj, rfl⟩ := List.getElem_of_mem h
  rw [List.length_take] at hj
  refine ⟨j, by omega, by omega, ?_⟩
  rw [List.getElem_take, List.getD_eq_getElem?_getD, List.getElem?_eq_getElem (by omega)]
  rfl
theorem getD_drop_mem {l : List Ls} {i : Nat} {a : Ls} (h : a ∈ l.drop i) : ∃ j, i ≤ j ∧ j < l.length ∧ l.getD j .zero = a := by
  obtain ⟨j, hj, rfl⟩ := List.getElem_of_mem h
  rw [List.length_drop] at hj
  refine ⟨i + j, by omega, by omega, ?_⟩
  rw [List.getElem_drop, List.getD_eq_getElem?_getD, List.getElem?_eq_getElem (by omega)]
  rfl
theorem rise_lt {l : List Ls} (h : RiseP l) {i j : Nat} (hij : i < j) (hj : j < l.length) : aheadL (l.getD i .zero) (l.getD j .zero) := by
  unfold RiseP at h
  rw [List.pairwise_iff_getElem] at h
  have := h i j (by omega) hj hij
  simpa [List.getD_eq_getElem?_getD, hj, show i < l.length by omega] using this
/-- What stands ahead of an owner, and what behind. -/
theorem at_split {l : List Ls} (hr : RiseP l) {x : Ls} {i : Nat} {b : Bool} (h : AtL l x i b) :
    l.filter (fun a => decide (aheadL a x)) = l.take i ∧ l.filter (fun a => decide (aheadL x a)) = l.drop (i + (if b = true then 1 else 0)) := by
  obtain ⟨h1, h2, h3, h4⟩ := h
  have e0 : l = l.take i ++ l.drop i := (List.take_append_drop i l).symm
  constructor
  · conv => lhs; rw [e0]
    rw [List.filter_append, filter_none (l := l.drop i), List.append_nil, List.filter_eq_self]
    · intro a ha
      obtain ⟨j, hj, _, rfl⟩ := getD_take_mem ha
      exact decide_eq_true (h2 j hj)
    · intro a ha
      obtain ⟨j, hj, hl, rfl⟩ := getD_drop_mem ha
      exact decide_eq_false (h3 j hj hl)
  · have e1 : l = l.take (i + (if b = true then 1 else 0)) ++ l.drop (i + (if b = true then 1 else 0)) := (List.take_append_drop _ l).symm
    conv => lhs; rw [e1]
    rw [List.filter_append, filter_none (l := l.take _), List.nil_append, List.filter_eq_self]
    · intro a ha
      obtain ⟨j, hj, hl, rfl⟩ := getD_drop_mem ha
      refine decide_eq_true ?_
      cases b with
      | true =>
        obtain ⟨g1, g2⟩ := h4.1 rfl
        exact (ahead_same g2).1.1 (rise_lt hr (by simp at hj; omega) hl)
      | false =>
        have hj' : i ≤ j := by simpa using hj
        rcases ahead_three (l.getD j .zero) x with g | g | g
        · exact absurd g (h3 j hj' hl)
        · exact g
        · by_cases e : j = i
          · subst e
            exact absurd (h4.2 ⟨hl, g⟩) (by simp)
          · have := rise_lt hr (show i < j by omega) hl
            exact absurd ((ahead_same g).2.1 this) (h3 i (Nat.le_refl _) (by omega))
    · intro a ha
      obtain ⟨j, hj, hl, rfl⟩ := getD_take_mem ha
      refine decide_eq_false ?_
      by_cases e : j < i
      · exact ahead_asymm (h2 j e)
      · cases b with
        | true =>
          have : j = i := by simp at hj; omega
          subst this
          obtain ⟨g1, g2⟩ := h4.1 rfl
          intro g
          have := (ahead_same g2).2.1 g
          unfold aheadL at this
          omega
        | false => simp at hj; omega
/-- The lists with other pages of one: by its place. -/
theorem setLs_at {l : List Ls} (hr : RiseP l) {x : Ls} {i : Nat} {b : Bool} (h : AtL l x i b) :
    setLs l x = (if x.pages.length = 0 then (if b = true then l.eraseIdx i else l) else (if b = true then l.eraseIdx i else l).take i ++ x :: (if b = true then l.eraseIdx i else l).drop i) := by
  obtain ⟨e1, e2⟩ := at_split hr h
  unfold setLs
  rw [e1, e2]
  have hi := h.1
  cases b with
  | true =>
    have hb := (h.2.2.2.1 rfl).1
    simp only [if_true]
    have e3 : l.eraseIdx i = l.take i ++ l.drop (i + 1) := List.eraseIdx_eq_take_drop_succ l i
    have hl : (l.take i).length = i := by simp; omega
    rw [e3]
    by_cases hp : x.pages.length = 0
    · rw [if_pos hp, if_pos hp]; rfl
    · rw [if_neg hp, if_neg hp, List.take_left' hl, List.drop_left' hl]
      rfl
  | false =>
    simp only [Bool.false_eq_true, if_false, Nat.add_zero]
    by_cases hp : x.pages.length = 0
    · rw [if_pos hp, if_pos hp, List.nil_append, List.take_append_drop]
    · rw [if_neg hp, if_neg hp]; rfl

end Go.Proofs.Ytbjlbmofdnkmiaa

/-
  OWN TEXT. A region that draws its order, walked in the order of the text, whose last operation waits for all others: what it does need not keep the condition; over whatever program.
-/
namespace Go.Proofs.Ytbjlbmofdnkmiaa.Kit
open Go Go.RowKit

section
variable {P : Program} {l : List Oper} {Q : Exit → Act → World → Prop} {S : World → Prop} {eff : List Nat}
theorem sx_heldl {id n : Nat} {o : Oper} {A : Act} {w : World} (S : World → Prop) (eff : List Nat) (hm : P.follows .mixedOrders = true) (hp : peelB .any l n = true) (ho : l[n]? = some o) (hB : lexHB (l.take n).toArray eff = true) (hQ : Blind Q) (hS : S { w with drawn := w.drawn + 1 })
    (h : wpHL P (l.take n) (lastQ P o Q) S eff 0 (l.take n) A { w with drawn := w.drawn + 1 }) : (Code.region id l.toArray true).wp P Q A w := by
  unfold lexHB at hB
  simp only [Bool.and_eq_true] at hB
  have hn : (l.take n).length = n := by
    have := (peel_spec hp).1
    simp; omega
  refine wp_region_peel n o (S := S) hm hp ho ?_
  have hQ' : Blind (lastQ P o Q) := fun c a w d v g => hQ c a w d v g
  have := wpAnyH_lex hB.1 hQ' (l.take n) 0 (Array.replicate (l.take n).toArray.size false) A { w with drawn := w.drawn + 1 } (fun j => by simp) hS (by simpa using hB.2) h
  rw [List.size_toArray, hn] at this
  exact this

variable {A : Act} {N : Nat} {L : List (Nat × Value)} {rest : List Oper} {o : Oper} {w : World} {k : Nat}
/-- An operation by what it does, alone. -/
theorem h_opR {d : Nat} {R : Value → World → Prop} (f : Fr A N L) (he : memN eff k = true) (hd : o.dst = some d) (hN : Nat.blt d N = true) (hw : wantB l L o = some true) (hr : ∃ v W, (execOp A.eval o).run P w = .ok (.value v) W ∧ R v W)
    (h : ∀ v W, R v W → S W ∧ ∀ A', Fr A' N ((d, v) :: L) → wpHL P l Q S eff (k + 1) rest A' W) : wpHL P l Q S eff k (o :: rest) A w := by
  obtain ⟨v, W, hrun, hR⟩ := hr
  obtain ⟨h1, h2⟩ := h v W hR
  unfold wpHL
  rw [if_pos he, if_pos (f.wanted hw)]
  unfold Oper.wp
  rw [hrun, Oper.upon_value, hd]
  exact ⟨h1, h2 _ (f.put d v (by simpa [Nat.blt_eq] using hN))⟩
theorem x_ret0 {fn : Func} {R : Ending → World → Prop} (f : Fr A N L) (hr : fn.results = #[]) (h : R (.returned (.tuple #[])) w) : bodyPost P fn R .ret A w := by
  refine ⟨f.defs, _, ?_, h⟩
  simp [results, hr]
theorem x_norm0 {fn : Func} {R : Ending → World → Prop} (f : Fr A N L) (hr : fn.results = #[]) (h : R (.returned (.tuple #[])) w) : bodyPost P fn R .normal A w := by
  refine ⟨f.defs, _, ?_, h⟩
  simp [results, hr]
end

end Go.Proofs.Ytbjlbmofdnkmiaa.Kit

/-
  OWN TEXT. append to a row that the call owns, or to none: where the row is then; over whatever program.
-/
namespace Go.Proofs.Ytbjlbmofdnkmiaa.Kit
open Go Go.RowKit

theorem append_row {P : Program} (w : World) (base : Nat) (t ty e : TypeId) (i : TypeInfo) (z : Value) (size : Nat) (ht : P.underlying t = some (.slice e)) (hi : P.info? e = some i) (hz : i.zero = some z) (hsz : i.size = size) (hzs : z.cells.size = size)
    (ao : Option Addr) (n cap : Nat) (xs : List Value) (hown : w.ownsRow base e size (.slice ao n cap) n xs) (a : Addr) (m c : Nat) (news : List Value) (hl : news.length = m * size) (hnews : ∀ j v, news[j]? = some v → w.cell? (a.add j) = some v) (h1 : ∀ u ∈ news, u.oneCell' = true)
    (h0 : 0 < m) (hm : n + m ≤ maxLen) (hby : (n + m) * i.bytes ≤ 140737488355328) (hb : base ≤ w.heap.size) :
    ∃ g' cap' W, (Builtin.append_ #[t, t] ty #[.slice ao n cap, .slice (some a) m c]).run P w = .ok (.slice (some ⟨g', 0, none⟩) (n + m) cap') W ∧ W.ownsRow base e size (.slice (some ⟨g', 0, none⟩) (n + m) cap') (n + m) (xs ++ news) ∧
      ((ao = some ⟨g', 0, none⟩ ∧ But g' w W) ∨ (g' = w.heap.size ∧ Below w.heap.size w W)) := by
  have hown' := hown
  rcases hown.2 with ⟨e1, e2⟩ | ⟨g, cap', cur, e1, hbg, hg, hn, hmx, hsc, htk⟩
  · simp only [Value.slice.injEq] at e1
    obtain ⟨rfl, rfl, rfl⟩ := e1
    have hx : xs = [] := List.eq_nil_of_length_eq_zero (by have := hown.1; simpa using this)
    subst hx
    subst hsz
    have hby' : m * i.bytes ≤ 281474976710656 := by simp only [Nat.zero_add] at hby; omega
    have h63 : (m : Int) ≤ 9223372036854775807 := by simp only [maxLen] at hm; omega
    have hr := run_append_nil (P := P) (w := w) t ty e i z ht hi hz a m c news hl hnews h0 h63 hby'
    have hc1 := grownCap_ge w m 0 e
    have hc2 := grownCap_le_maxLen w m 0 e (by omega)
    have R : Row (w.drew.alloc (.cells (news.toArray ++ Builtin.zeroCells z.cells (grownCap w m 0 e - m)) e)) e i.size w.heap.size (grownCap w m 0 e) (news.toArray ++ Builtin.zeroCells z.cells (grownCap w m 0 e - m)).toList := row_new (by
      simp only [Array.size_append, List.size_toArray, size_zeroCells, hl, hzs]
      rw [← Nat.add_mul]
      congr 1
      omega) hc2
    refine ⟨w.heap.size, grownCap w m 0 e, _, by rw [Nat.zero_add]; exact hr, ?_, .inr ⟨rfl, below_new _ _⟩⟩
    rw [Nat.zero_add, List.nil_append]
    refine R.owns hb hc1 ?_
    simp only [Array.toList_append]
    rw [List.take_append_of_le_length (by simp [hl]), List.take_of_length_le (by simp [hl])]
  · simp only [Value.slice.injEq] at e1
    obtain ⟨rfl, _, rfl⟩ := e1
    by_cases hr : n + m ≤ cap
    · obtain ⟨w', hrun, r1, r2⟩ := run_append_fits (P := P) w base t ty e i size ht hi hsz g n cap xs hown' a m c news hl hnews h1 hr
      exact ⟨g, cap, w', hrun, r1, .inl ⟨rfl, r2.os, r2.tape, r2.output, r2.size, fun k hk hne => r2.block k hk (by intro q; exact hne (by simpa using q))⟩⟩
    · obtain ⟨cap', W, cur', hrun, R', ht', hc', hb'⟩ := grow_some (P := P) w t ty e i z size ht hi hz hsz hzs ⟨g, 0, none⟩ n cap xs hown'.1 (hown'.cells rfl) a m c news hl hnews (by omega) hm hby
      exact ⟨w.heap.size, cap', W, hrun, R'.owns hb hc' ht', .inr ⟨rfl, hb'⟩⟩

end Go.Proofs.Ytbjlbmofdnkmiaa.Kit

/-
  OWN TEXT. Contracts of the document's answer: power.
-/
namespace Go.Proofs.Ytbjlbmofdnkmiaa
open Go Go.RowKit Go.Proofs.Ytbjlbmofdnkmiaa.Kit

set_option maxHeartbeats 1000000 in
theorem power_nat (w : World) (n : Nat) (hn : n ≤ 8) :
    Calls Try.prog 39 #[.int .i64 n] w fun e w' => e = .returned (.int .i64 ((2 ^ n : Nat) : Int)) ∧ w = w' := by
  obtain ⟨P, hP⟩ : ∃ P : Nat, 2 ^ n = P := ⟨_, rfl⟩
  rw [hP]
  have HP : Hid (2 ^ n = P) := hP
  clear hP
  go_enter Try.func39, Try.ntmps39
  go_wp2
  go_loopw [0, 3] (fun nv pv wr => ∃ k q : Nat, k ≤ n ∧ q ≤ 256 ∧ nv = .int .i64 k ∧ pv = .int .i64 q ∧ Hid (q * 2 ^ k = P) ∧ w = wr) (fun nv _ _ => (intOf nv).toNat)
  case atStart => exact ⟨n, 1, Nat.le_refl _, by omega, rfl, rfl, by show _ = _; rw [Nat.one_mul]; exact HP.out, rfl⟩
  case round =>
    obtain ⟨k, q, hk, hq, rfl, rfl, hI, rfl⟩ := hrel
    cases k with
    | zero =>
      obtain rfl : q = P := by have := hI.out; simpa using this
      clear hI HP
      go_wp2
      go_ret
      exact ⟨rfl, rfl⟩
    | succ k =>
      have hI2 : Hid (2 * q * 2 ^ k = P) := by have := hI.out; show _ = _; rw [← this, Nat.pow_succ]; rw [Nat.mul_comm 2 q, Nat.mul_assoc, Nat.mul_comm 2]
      have hq3 : 2 * q ≤ 256 := by
        have h1 := hI2.out
        have h2 := HP.out
        have h3 : P ≤ 256 := by rw [← h2]; exact Nat.le_trans (Nat.pow_le_pow_right (by omega) hn) (by decide)
        have h4 := Nat.two_pow_pos k
        have h5 : 2 * q * 1 ≤ 2 * q * 2 ^ k := Nat.mul_le_mul_left _ h4
        omega
      have t1 : (0 : Int) < ((k + 1 : Nat) : Int) := by omega
      clear hI HP
      go_wp2
      go_roundw
      case rel => exact ⟨k, 2 * q, by omega, hq3, by go_num, by go_num, hI2, trivial⟩
      case measure => simp [intOf]

theorem power_any (w : World) (o : Int) (h0 : 0 ≤ o) (h : o ≤ 8) :
    Calls Try.prog 39 #[.int .i64 o] w fun e w' => e = .returned (.int .i64 (pw o)) ∧ w = w' := by
  obtain ⟨n, rfl⟩ : ∃ n : Nat, o = n := ⟨o.toNat, by omega⟩
  exact power_nat w n (by omega)

/-- The same, as a quiet region asks for it. -/
theorem power_q (o : Int) (h0 : 0 ≤ o) (h : o ≤ 8) (w : World) :
    Calls Try.prog 39 #[.int .i64 o] w fun e w' => e = .returned (.int .i64 (pw o)) ∧ w' = w :=
  (power_any w o h0 h).mono fun _ _ ⟨h1, h2⟩ => ⟨h1, h2.symm⟩

/-- The same, the power under a name. -/
theorem power_v (o v : Int) (h0 : 0 ≤ o) (h : o ≤ 8) (hv : pw o = v) (w : World) :
    Calls Try.prog 39 #[.int .i64 o] w fun e w' => e = .returned (.int .i64 v) ∧ w' = w := by
  subst hv; exact power_q o h0 h w

end Go.Proofs.Ytbjlbmofdnkmiaa

/-
  OWN TEXT. Contracts of the document's answer: ZoneNew.
-/
namespace Go.Proofs.Ytbjlbmofdnkmiaa
open Go Go.RowKit Go.Proofs.Ytbjlbmofdnkmiaa.Kit

/-- The empty zone, as cells. -/
theorem newOk_nat {f t : Int} (h : newOk f t) : ∃ F T : Nat, f = F ∧ t = T ∧ F ≤ T ∧ T ≤ 256 ∧ F % 16 = 0 ∧ T % 16 = 0 := by
  obtain ⟨h1, h2, h3, h4, h5⟩ := h
  exact ⟨f.toNat, t.toNat, by omega, by omega, by omega, by omega, by omega, by omega⟩

set_option maxRecDepth 4000 in
set_option maxHeartbeats 2000000 in
theorem zoneNew_nat (w : World) (f t : Nat) (h1 : f ≤ t) (h2 : t ≤ 256) (h3 : f % 16 = 0) (h4 : t % 16 = 0) :
    Calls Try.prog 24 #[.int .i64 f, .int .i64 t] w fun e w' => RetZone w.heap.size w' ⟨f, t, [], List.replicate ((t - f) / 8) 1⟩ e ∧ Below w.heap.size w w' := by
  have e1 : inB f 0 256 = true := inB_t (by omega)
  have e2 : inB t f 256 = true := inB_t (by omega)
  have m1 : (f : Int) % 16 = 0 := by omega
  have m2 : (t : Int) % 16 = 0 := by omega
  obtain ⟨i0, hi, hz0, hz1, hz2⟩ := info_parts info_int
  have hb2 : Below w.heap.size w ((w.alloc (.cells #[.int .i64 0, .int .i64 0, .slice none 0 0, .slice none 0 0] 44)).alloc (.cells #[.int .i64 f, .int .i64 t, .slice none 0 0, .slice none 0 0] 44)) := ((Below.refl _ _).alloc (Nat.le_refl _) _).alloc (by simp) _
  have R0 : Res4 ((w.alloc (.cells #[.int .i64 0, .int .i64 0, .slice none 0 0, .slice none 0 0] 44)).alloc (.cells #[.int .i64 f, .int .i64 t, .slice none 0 0, .slice none 0 0] 44)) w.heap.size := (zbox_new w _ _ _ _ _).res.below (below_box _ _)
  have Z0 : ZBox ((w.alloc (.cells #[.int .i64 0, .int .i64 0, .slice none 0 0, .slice none 0 0] 44)).alloc (.cells #[.int .i64 f, .int .i64 t, .slice none 0 0, .slice none 0 0] 44)) (w.heap.size + 1) (.int .i64 f) (.int .i64 t) (.slice none 0 0) (.slice none 0 0) := by
    have := zbox_new (w.alloc (.cells #[.int .i64 0, .int .i64 0, .slice none 0 0, .slice none 0 0] 44)) (.int .i64 f) (.int .i64 t) (.slice none 0 0) (.slice none 0 0) 44
    simpa using this
  obtain ⟨N, hN⟩ : ∃ N, N = (t - f) / 8 := ⟨_, rfl⟩
  have hN8 : f + 8 * N = t := by omega
  rw [← hN]
  have hs0 : w.heap.size + 2 ≤ ((w.alloc (.cells #[.int .i64 0, .int .i64 0, .slice none 0 0, .slice none 0 0] 44)).alloc (.cells #[.int .i64 f, .int .i64 t, .slice none 0 0, .slice none 0 0] 44)).heap.size := by simp
  clear hN
  obtain ⟨W0, hW0⟩ : ∃ W0, (w.alloc (.cells #[.int .i64 0, .int .i64 0, .slice none 0 0, .slice none 0 0] 44)).alloc (.cells #[.int .i64 f, .int .i64 t, .slice none 0 0, .slice none 0 0] 44) = W0 := ⟨_, rfl⟩
  rw [hW0] at hb2 R0 Z0 hs0
  have HW0 : Hid _ := hW0
  clear hW0
  go_enter Try.func24, Try.ntmps24
  go_wp2_with (go_at_call 25; refine (in_any _ _ _ _).mono ?_; rintro e w' ⟨rfl, rfl⟩)
  rw [HW0.out]
  clear e1 e2 m1 m2 HW0
  go_loopw [7] (fun pv wr => ∃ (k p c : Nat) (bo : Option Addr), p = f + 8 * k ∧ k ≤ N ∧ pv = .int .i64 p ∧ ZBox wr (w.heap.size + 1) (.int .i64 f) (.int .i64 t) (.slice none 0 0) (.slice bo k c) ∧ wr.ownsRow (w.heap.size + 2) 3 1 (.slice bo k c) k (vals (List.replicate k 1)) ∧ Res4 wr w.heap.size ∧ Below w.heap.size w wr ∧ w.heap.size + 2 ≤ wr.heap.size) (fun pv _ => f + 8 * N - (intOf pv).toNat)
  case atStart => exact ⟨0, f, 0, none, by omega, Nat.zero_le _, rfl, Z0, World.ownsRow_nil _ _ _ _, R0, hb2, hs0⟩
  case round =>
    obtain ⟨k, p, c, bo, hp, hk, rfl, Z, hown, R, hb, hs⟩ := hrel
    clear Z0 R0 hb2 hs0
    by_cases hlt : k < N
    · have hpt : (p : Int) < t := by omega
      have hml : k + 1 ≤ maxLen := by unfold maxLen; omega
      have hsz : (k + 1) * 8 ≤ 140737488355328 := by omega
      have c3 := Z.c3
      go_wp2_with (at_builtin; refine wpList_append_own _ rfl (.tmp 38) (.tmp 39) 24 rfl (w.heap.size + 2) 3 i0 (.int .i64 0) 1 8 Try.underlying24 hi hz0 hz1 hz2 rfl (by decide) _ _ _ rfl (hown.alloc _) ⟨wr.heap.size, 0, none⟩ 1 1 [.int .i64 1] rfl rfl ?c1 ?c2 hml hsz ?c5 ?_)
      case c1 => exact cell_one_new' _ _ _
      case c2 => exact ints_oneCell .i64 [_]
      case c5 => simp; omega
      intro v' w3 hown' hgrow _
      have hb3 : Below (w.heap.size + 2) wr w3 := ((Below.refl _ _).alloc hs _).grown hgrow (by simp; omega) (fun g hg => (hown.lt g hg).1)
      have e9 : vals (List.replicate k 1) ++ [Value.int .i64 1] = vals (List.replicate (k + 1) 1) := by rw [List.replicate_succ', vals_append]; rfl
      rw [e9] at hown'
      obtain ⟨bo', c', rfl⟩ := owns_shape hown'
      have Z3 := Z.belowB hb3 (by omega)
      have R3 := R.belowB hb3 (by omega)
      have hB3 := hb.trans (hb3.mono (by omega))
      have hs3 := Nat.le_trans hs hb3.size
      have Z4 := Z3.set3 (.slice bo' (k + 1) c')
      have own4 := ownsRow_setCell_below hown' (a := ⟨w.heap.size + 1, 3, none⟩) (show w.heap.size + 1 < w.heap.size + 2 by omega) (.slice bo' (k + 1) c')
      have hbt : But (w.heap.size + 1) w3 (w3.setCell ⟨w.heap.size + 1, 3, none⟩ (.slice bo' (k + 1) c')) := (But.refl _ _).setCell _
      have R4 := R3.but hbt (by omega)
      have hB4 := hB3.trans (hbt.below (B := w.heap.size) (by omega) (by omega))
      have hs4 := Nat.le_trans hs3 hbt.size
      have c3' := Z3.c3
      have z3' := Z3.z3
      clear Z R hown hb hs hgrow hb3 Z3 R3 hB3 hs3 hown' hbt e9 c3
      go_wp2
      go_roundw
      case rel => exact ⟨k + 1, f + 8 * (k + 1), c', bo', rfl, by omega, by go_num, Z4, own4, R4, hB4, hs4⟩
      case measure => simp [intOf]; omega
    · have hpt : ¬ (p : Int) < t := by omega
      obtain rfl : k = N := by omega
      have c0 := Z.c0
      have c1 := Z.c1
      have c2 := Z.c2
      have c3 := Z.c3
      obtain ⟨⟨x0, d0⟩, ⟨x1, d1⟩, ⟨x2, d2⟩, ⟨x3, d3⟩, z0, z1, z2, z3⟩ := id R
      go_wp2
      obtain ⟨k0, k1, k2, k3⟩ := res4 R (.int .i64 f) (.int .i64 t) (.slice none 0 0) (.slice bo k c)
      have hbt := but4 wr w.heap.size (.int .i64 f) (.int .i64 t) (.slice none 0 0) (.slice bo k c)
      refine bodyPost_ret (v := .tuple #[.agg #[.int .i64 f, .int .i64 t, .slice none 0 0, .slice bo k c], .int .i64 0]) (by simp [results, Try.results24, go_sem, k0, k1, k2, k3]) rfl ⟨⟨none, 0, 0, bo, k, c, rfl, ⟨Blks.nil _, hbt.nums (nums_of_owns hown (by omega)) (fun a ha => by have := owns_fresh hown a ha; omega)⟩, fresh_none _, (owns_fresh hown).mono (by omega)⟩, hb.trans (hbt.below (Nat.le_refl _) hb.size)⟩

theorem zoneNew_ok (w : World) (f t : Int) (h : newOk f t) :
    Calls Try.prog 24 #[.int .i64 f, .int .i64 t] w fun e w' => RetZone w.heap.size w' (newZ f t) e ∧ Below w.heap.size w w' := by
  obtain ⟨F, T, rfl, rfl, h1, h2, h3, h4⟩ := newOk_nat h
  have e : newZ (F : Int) T = ⟨F, T, [], List.replicate ((T - F) / 8) 1⟩ := by
    unfold newZ newTypes
    have : (((T : Int) - F) / 8).toNat = (T - F) / 8 := by omega
    rw [this]
  rw [e]
  exact zoneNew_nat w F T h1 h2 h3 h4

set_option maxRecDepth 4000 in
set_option maxHeartbeats 2000000 in
theorem zoneNew_no (w : World) (f t : Int) (h : ¬ newOk f t) :
    Calls Try.prog 24 #[.int .i64 f, .int .i64 t] w fun e w' => RetNone 1 e ∧ Below w.heap.size w w' := by
  have hb1 := below_box w (.cells #[.int .i64 0, .int .i64 0, .slice none 0 0, .slice none 0 0] 44)
  by_cases h1 : 0 ≤ f ∧ f ≤ 256
  · by_cases h2 : f ≤ t ∧ t ≤ 256
    · obtain ⟨F, rfl⟩ : ∃ F : Nat, f = F := ⟨f.toNat, by omega⟩
      obtain ⟨T, rfl⟩ : ∃ T : Nat, t = T := ⟨t.toNat, by omega⟩
      have e1 : inB (F : Int) 0 256 = true := inB_t h1
      have e2 : inB (T : Int) F 256 = true := inB_t h2
      by_cases h3 : (F : Int) % 16 = 0
      · have h4 : ¬ (T : Int) % 16 = 0 := fun g => h ⟨by omega, by omega, by omega, h3, g⟩
        clear h h1 h2
        go_enter Try.func24, Try.ntmps24
        go_wp2_with (go_at_call 25; refine (in_any _ _ _ _).mono ?_; rintro e w' ⟨rfl, rfl⟩)
        exact bodyPost_ret (v := .tuple #[.agg #[.int .i64 0, .int .i64 0, .slice none 0 0, .slice none 0 0], .int .i64 1]) (by simp [results, Try.results24, go_sem]) rfl ⟨rfl, hb1⟩
      · clear h h1 h2
        go_enter Try.func24, Try.ntmps24
        go_wp2_with (go_at_call 25; refine (in_any _ _ _ _).mono ?_; rintro e w' ⟨rfl, rfl⟩)
        exact bodyPost_ret (v := .tuple #[.agg #[.int .i64 0, .int .i64 0, .slice none 0 0, .slice none 0 0], .int .i64 1]) (by simp [results, Try.results24, go_sem]) rfl ⟨rfl, hb1⟩
    · have e1 : inB f 0 256 = true := inB_t h1
      have e2 : inB t f 256 = false := inB_f h2
      clear h h1 h2
      go_enter Try.func24, Try.ntmps24
      go_wp2_with (go_at_call 25; refine (in_any _ _ _ _).mono ?_; rintro e w' ⟨rfl, rfl⟩)
      exact bodyPost_ret (v := .tuple #[.agg #[.int .i64 0, .int .i64 0, .slice none 0 0, .slice none 0 0], .int .i64 1]) (by simp [results, Try.results24, go_sem]) rfl ⟨rfl, hb1⟩
  · have e1 : inB f 0 256 = false := inB_f h1
    clear h h1
    go_enter Try.func24, Try.ntmps24
    go_wp2_with (go_at_call 25; refine (in_any _ _ _ _).mono ?_; rintro e w' ⟨rfl, rfl⟩)
    exact bodyPost_ret (v := .tuple #[.agg #[.int .i64 0, .int .i64 0, .slice none 0 0, .slice none 0 0], .int .i64 1]) (by simp [results, Try.results24, go_sem]) rfl ⟨rfl, hb1⟩

end Go.Proofs.Ytbjlbmofdnkmiaa

/-
  OWN TEXT. Contract of the document's answer: blockMay.
-/
namespace Go.Proofs.Ytbjlbmofdnkmiaa
open Go Go.RowKit Go.Proofs.Ytbjlbmofdnkmiaa.Kit

set_option maxHeartbeats 2000000 in
theorem blockMay_any (w : World) (f t : Int) (fo to_ : Option Addr) (fn fc tn tc : Nat) (a o : Int) (h : newOk f t) :
    Calls Try.prog 61 #[.agg #[.int .i64 f, .int .i64 t, .slice fo fn fc, .slice to_ tn tc], .int .i64 a, .int .i64 o] w fun e w' => e = .returned (.bool (blkB f t a o)) ∧ Below w.heap.size w w' := by
  obtain ⟨h1, h2, h3, h4, h5⟩ := h
  have hb1 := below_box w (.cells #[.int .i64 f, .int .i64 t, .slice fo fn fc, .slice to_ tn tc] 44)
  by_cases p1 : 0 ≤ o ∧ o ≤ 4
  · have e1 : inB o 0 4 = true := inB_t p1
    by_cases p2 : f ≤ a ∧ a ≤ t - 1
    · have e2 : inB a f (t - 1) = true := inB_t p2
      obtain ⟨A, rfl⟩ : ∃ A : Nat, a = A := ⟨a.toNat, by omega⟩
      obtain ⟨P, hP, hP0⟩ : ∃ P : Nat, pw o = P ∧ 0 < P := ⟨(pw o).toNat, by have := pw_pos o; omega, by have := pw_pos o; omega⟩
      have hP1 : ((P : Int) == 0) = false := by simp; omega
      have HR : Hid (blkB f t (A : Int) o = decide ((A : Int) % P = 0)) := by show _ = _; unfold blkB; rw [e1, e2, hP]; rfl
      have hp16 : P ≤ 16 := by have := pw_le (show ordOk o from p1); omega
      have HP : Hid (pw o = P) := hP
      clear hP
      go_enter Try.func61, Try.ntmps61
      go_wp2_with (go_at_call 25; refine (in_any _ _ _ _).mono ?_; rintro e w' ⟨rfl, rfl⟩)
      go_at_call 39
      refine (power_any _ o p1.1 (by omega)).mono ?_
      rintro e w' ⟨rfl, rfl⟩
      rw [HP.out]
      by_cases d : (A : Int) % (P : Int) = 0
      · have HR2 : Hid (blkB f t (A : Int) o = true) := by show _ = _; rw [HR.out]; exact decide_eq_true d
        clear HR HP
        go_wp2
        go_ret
        exact ⟨ret_bool HR2.out.symm, hb1⟩
      · have HR2 : Hid (blkB f t (A : Int) o = false) := by show _ = _; rw [HR.out]; exact decide_eq_false d
        clear HR HP
        go_wp2
        go_ret
        exact ⟨ret_bool (by rw [HR2.out]; simpa using d), hb1⟩
    · have e2 : inB a f (t - 1) = false := inB_f p2
      have HR : Hid (blkB f t a o = false) := by show _ = _; unfold blkB; rw [e1, e2]; rfl
      go_enter Try.func61, Try.ntmps61
      go_wp2_with (go_at_call 25; refine (in_any _ _ _ _).mono ?_; rintro e w' ⟨rfl, rfl⟩)
      go_ret
      exact ⟨ret_bool HR.out.symm, hb1⟩
  · have e1 : inB o 0 4 = false := inB_f p1
    have HR : Hid (blkB f t a o = false) := by show _ = _; unfold blkB; rw [e1]; rfl
    go_enter Try.func61, Try.ntmps61
    go_wp2_with (go_at_call 25; refine (in_any _ _ _ _).mono ?_; rintro e w' ⟨rfl, rfl⟩)
    go_ret
    exact ⟨ret_bool HR.out.symm, hb1⟩

end Go.Proofs.Ytbjlbmofdnkmiaa

/-
  OWN TEXT. Contract of the document's answer: words.
-/
namespace Go.Proofs.Ytbjlbmofdnkmiaa
open Go Go.RowKit Go.Proofs.Ytbjlbmofdnkmiaa.Kit

set_option maxHeartbeats 400000 in
theorem words_any (w : World) (ao : Option Addr) (n cap : Nat) (xs : List Int) (hn : xs.length = n) (hr : n * 8 ≤ 140737488351232) (hx : IntsAt w ao xs) :
    Calls Try.prog 42 #[.slice ao n cap] w fun e w' => ∃ bo c, e = .returned (.slice bo n c) ∧
      w'.ownsRow w.heap.size 3 1 (.slice bo n c) n (vals xs) ∧ Below w.heap.size w w' := by
  obtain ⟨i0, hi, hz0, hz1, hz2⟩ := info_parts info_int
  go_enter Try.func42, Try.ntmps42
  go_wp2
  go_loopw [3, 4] (fun v i wr => ∃ k : Nat, k ≤ n ∧ i = .int .i64 k ∧ wr.ownsRow w.heap.size 3 1 v k (vals (xs.take k)) ∧ Below w.heap.size w wr) (fun _ i _ => n - (intOf i).toNat)
  case atStart => exact ⟨0, Nat.zero_le _, rfl, World.ownsRow_nil _ _ _ _, Below.refl _ _⟩
  case round =>
    obtain ⟨k, hk, rfl, hown, hb⟩ := hrel
    by_cases hlt : k < n
    · obtain ⟨b, o, x, rfl, c, hX⟩ := (hx.below hb).at k (by omega)
      have hs := hb.size
      have hml : k + 1 ≤ maxLen := by unfold maxLen; omega
      clear hx
      go_wp2_with (at_builtin; refine wpList_append_own _ rfl (.tmp 11) (.tmp 16) 24 rfl w.heap.size 3 i0 (.int .i64 0) 1 8 Try.underlying24 hi hz0 hz1 hz2 rfl (by decide) _ _ _ rfl (hown.alloc _) ⟨wr.heap.size, 0, none⟩ 1 1 [.int .i64 x] rfl rfl ?c1 ?c2 hml ?c4 ?c5 ?_)
      case c1 => exact cell_one_new' _ _ _
      case c2 => exact ints_oneCell .i64 [_]
      case c4 => omega
      case c5 => simp; omega
      intro v' w1 hown' hgrow _
      rw [take_snoc xs k (by omega) hX.out] at hown'
      have hb' : Below w.heap.size w w1 := (hb.alloc hs _).grown hgrow (by simp; omega) (fun g hg => (hown.lt g hg).1)
      clear hown hgrow hb
      go_wp2
      go_roundw
      case rel => exact ⟨k + 1, by omega, by go_num, hown', hb'⟩
      case measure => simp [intOf]; omega
    · obtain rfl : k = n := by omega
      obtain ⟨bo, c, rfl⟩ := owns_shape hown
      go_wp2
      go_ret
      exact ⟨bo, c, rfl, by rw [List.take_of_length_le (by omega)] at hown; exact hown, hb⟩

end Go.Proofs.Ytbjlbmofdnkmiaa
