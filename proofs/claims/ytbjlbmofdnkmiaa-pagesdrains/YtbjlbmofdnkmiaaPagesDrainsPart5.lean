/-
  OWN TEXTS, bundled: ZPure3, CopyK, AppK, Bu2, HPre, ZRet, ZBase, Sized, ZArgs, HArgs.
-/
import Derived.Test.YtbjlbmofdnkmiaaPagesDrainsPart4
import Derived.Test.YtbjlbmofdnkmiaaPagesDrainsPart3
import Derived.Laws.CopyOwn
import Derived.Laws.AppendOwn
import Derived.Deep.RegionLaw
import Derived.OwnWalk
import Derived.Lib.AppendZerosOnto
import Derived.Lib.AppendZeros
import Derived.Lib.Overlaps
import Derived.Laws.Externs
import Derived.Test.YtbjlbmofdnkmiaaPagesDrainsPart1
import Derived.Lib.SmallJoins
import Derived.Deep.SlicePairs

/-
  OWN TEXT. A block comes back, as plain mathematics.
-/
namespace Go.Proofs.Ytbjlbmofdnkmiaa.Kit

/-- The block beside one. -/
def besideA (a o : Int) : Int := if a % pw (o + 1) = 0 then a + pw o else a - pw o

/-- Blocks are joined, n times at most. -/
def backGo : Nat → List Bk → Int → Int → List Bk × Int × Int
  | 0, l, a, o => (l, a, o)
  | n + 1, l, a, o => if hasB l (besideA a o) o = true then backGo n (dropB l (besideA a o) o) (if besideA a o < a then besideA a o else a) (o + 1) else (l, a, o)

/-- The zone when a block has come back. -/
def backZ (z : Zn) (a o : Int) : Zn :=
  ⟨z.f, z.t, addB (backGo (4 - o).toNat z.free a o).1 ⟨(backGo (4 - o).toNat z.free a o).2.1, (backGo (4 - o).toNat z.free a o).2.2, z.types.getD (((backGo (4 - o).toNat z.free a o).2.1 - z.f) / 8).toNat 0⟩, z.types⟩

theorem dropB_mem {l : List Bk} {a o : Int} {b : Bk} (h : b ∈ dropB l a o) : b ∈ l := (List.mem_filter.1 h).1
theorem hasB_in {l : List Bk} {f t a o : Int} (h : hasB l a o = true) (hl : ∀ b ∈ l, blkIn f t b.a b.o) : blkIn f t a o := by
  unfold hasB at h
  rw [List.any_eq_true] at h
  obtain ⟨b, hb, hi⟩ := h
  have := of_decide_eq_true hi
  have h2 := hl b hb
  rw [this.1, this.2] at h2
  exact h2

/-- Both together are a block that may be. -/
theorem join_in {f t a o : Int} (h : blkIn f t a o) (hb : blkIn f t (besideA a o) o) (ho : o < 4) : blkIn f t (if besideA a o < a then besideA a o else a) (o + 1) := by
  obtain ⟨⟨h1, h2⟩, h3, h4, h5⟩ := h
  obtain ⟨_, g3, g4, g5⟩ := hb
  have ho' : ordOk (o + 1) := ⟨by omega, by omega⟩
  rcases (show o = 0 ∨ o = 1 ∨ o = 2 ∨ o = 3 by omega) with rfl | rfl | rfl | rfl
  all_goals
    unfold besideA at g3 g4 g5 ⊢
    simp only [pw_0, pw_1, pw_2, pw_3, pw_4, show (0 : Int) + 1 = 1 from rfl, show (1 : Int) + 1 = 2 from rfl, show (2 : Int) + 1 = 3 from rfl, show (3 : Int) + 1 = 4 from rfl] at g3 g4 g5 h5 ⊢
    refine ⟨⟨by omega, by omega⟩, ?_, ?_, ?_⟩
    · split at g3 <;> split <;> omega
    · split at g4 <;> split <;> omega
    · simp only [pw_1, pw_2, pw_3, pw_4]
      split at g5 <;> split <;> omega

end Go.Proofs.Ytbjlbmofdnkmiaa.Kit

/-
  OWN TEXT. 'copy' and 'clear' at elements of k cells, over whatever program.
-/
namespace Go.Proofs.Ytbjlbmofdnkmiaa.Kit
open Go Go.RowKit

theorem but_setRow (w : World) (g : Nat) (cs : Array Value) : But g w (w.setRow g cs) :=
  ⟨rfl, rfl, rfl, by simp [World.setRow], fun k _ hne => setRow_other w g k cs (by omega)⟩

theorem run_copy_row_k {P : Program} (w : World) (dT sT ty elem : TypeId) (k g o dLen dCap : Nat) (a : Addr) (sLen sCap : Nat) (cur : Array Value) (t : TypeId) (cs : List Value)
    (hu : P.underlying dT = some (.slice elem)) (hs : (P.info? elem).map (·.size) = some k)
    (hg : w.heap[g]? = some (.cells cur t (0, 0))) (hn : cs.length = Nat.min sLen dLen * k)
    (hsrc : ∀ j v, cs[j]? = some v → w.cell? (a.add j) = some v) (hfit : o + cs.length ≤ cur.size) (h1 : ∀ v ∈ cs, v.oneCell' = true) :
    (Builtin.copy_ #[dT, sT] ty #[.slice (some ⟨g, o, none⟩) dLen dCap, .slice (some a) sLen sCap]).run P w =
      .ok (goInt (Nat.min sLen dLen)) (w.setRow g (cur.toList.take o ++ cs ++ cur.toList.drop (o + cs.length)).toArray) := by
  have hl := run_loadCells_list (P := P) w a cs hsrc
  have hst := run_storeCells_at P g o t cs 0 cur w hg (by simpa using hfit) h1
  cases hq : P.info? elem with
  | none => simp [hq] at hs
  | some i =>
    have hi : i.size = k := by simpa [hq] using hs
    simp [Builtin.copy_, run_underlying hu, Builtin.lenOf, Builtin.firstCells, sizeOf, typeInfo, hq, hi, ← hn, hl, hst]

theorem run_copy_none_k {P : Program} (w : World) (dT sT ty elem : TypeId) (k : Nat) (d a : Option Addr) (dLen dCap sLen sCap : Nat) (hu : P.underlying dT = some (.slice elem)) (hs : (P.info? elem).map (·.size) = some k) (hn : Nat.min sLen dLen = 0) :
    (Builtin.copy_ #[dT, sT] ty #[.slice d dLen dCap, .slice a sLen sCap]).run P w = .ok (goInt 0) w := by
  cases hq : P.info? elem with
  | none => simp [hq] at hs
  | some i =>
    cases d <;> cases a <;> simp [Builtin.copy_, run_underlying hu, Builtin.lenOf, Builtin.firstCells, sizeOf, typeInfo, hq, hn, storeCells, loadCells, loadCellsFrom]

theorem wpList_copy_k {P : Program} {w : World} {ops : Array Oper} {rest : List Oper} {o : Oper} {a : Act} {Q : Exit → Act → World → Prop} (hgd : o.guard = none) (d s : Operand) (dT sT : TypeId)
    (ho : o.op = .call { callee := .builtin .copy, args := #[d, s], argTypes := #[dT, sT] }) (elem : TypeId) (k : Nat) (hu : P.underlying dT = some (.slice elem)) (hsz : (P.info? elem).map (·.size) = some k)
    (dp sp : Option Addr) (dLen dCap sLen sCap : Nat) (hd : a.eval d = .slice dp dLen dCap) (hs : a.eval s = .slice sp sLen sCap)
    (g off : Nat) (cur : List Value) (t : TypeId) (hg : w.heap[g]? = some (.cells cur.toArray t (0, 0))) (cs : List Value) (m : Nat) (hm : Nat.min sLen dLen = m) (hn : cs.length = m * k)
    (hpos : 0 < m → dp = some ⟨g, off, none⟩ ∧ ∃ ad, sp = some ad ∧ ∀ j v, cs[j]? = some v → w.cell? (ad.add j) = some v)
    (hfit : off + cs.length ≤ cur.length) (h1 : ∀ v ∈ cs, v.oneCell' = true)
    (h : ∀ w', Hid (w'.heap[g]? = some (.cells (splice cur off cs).toArray t (0, 0))) → But g w w' → wpList P ops Q rest (a.put o.dst (goInt m)) w') :
    wpList P ops Q (o :: rest) a w := by
  by_cases h0 : m = 0
  · subst h0
    obtain rfl : cs = [] := List.eq_nil_of_length_eq_zero (by simpa using hn)
    refine wpList_plain hgd fun K hK => ?_
    have hrun := run_copy_none_k (P := P) w dT sT o.type elem k dp sp dLen dCap sLen sCap hu hsz hm
    unfold Oper.wp
    simp [execOp, ho, resolve, invoke, builtin, hd, hs, hrun, Result.andThen]
    exact hK _ _ (h w (show _ = _ by simpa [splice] using hg) (But.refl _ _))
  · obtain ⟨rfl, ad, rfl, hsrc⟩ := hpos (by omega)
    refine wpList_plain hgd fun K hK => ?_
    have hrun := run_copy_row_k (P := P) w dT sT o.type elem k g off dLen dCap ad sLen sCap cur.toArray t cs hu hsz hg (by rw [hm]; exact hn) hsrc (by simpa using hfit) h1
    rw [hm] at hrun
    unfold Oper.wp
    simp [execOp, ho, resolve, invoke, builtin, hd, hs, hrun, Result.andThen]
    refine hK _ _ (h _ (show _ = _ by simpa [splice] using setRow_heap w g _ _ t _ hg) (by simpa using but_setRow w g _))

end Go.Proofs.Ytbjlbmofdnkmiaa.Kit

/-
  OWN TEXT. Rows of blocks of k cells that a call owns: append, copy, clear as steps; over whatever program.
-/
namespace Go.Proofs.Ytbjlbmofdnkmiaa.Kit
open Go Go.RowKit

/-- A row: a block of 'cap' elements of 'size' cells each. -/
structure Row (w : World) (e : TypeId) (size g cap : Nat) (cur : List Value) : Prop where
  h : w.heap[g]? = some (.cells cur.toArray e (0, 0))
  len : cur.length = cap * size
  m : cap ≤ maxLen

theorem Row.lt {w : World} {e : TypeId} {size g cap : Nat} {cur : List Value} (h : Row w e size g cap cur) : g < w.heap.size := (Array.getElem?_eq_some_iff.1 h.h).1
theorem Row.but {w w' : World} {e : TypeId} {size g cap c : Nat} {cur : List Value} (h : Row w e size g cap cur) (hb : But c w w') (hne : g ≠ c) : Row w' e size g cap cur :=
  ⟨(hb.block g h.lt hne).trans h.h, h.len, h.m⟩
theorem Row.below {w w' : World} {e : TypeId} {size g cap : Nat} {cur : List Value} (h : Row w e size g cap cur) (hb : Below w.heap.size w w') : Row w' e size g cap cur :=
  ⟨(hb.block g h.lt).trans h.h, h.len, h.m⟩
theorem Row.cell {w : World} {e : TypeId} {size g cap : Nat} {cur : List Value} (h : Row w e size g cap cur) (j : Nat) : w.cell? ⟨g, j, none⟩ = cur[j]? := by
  simp [World.cell?, h.h]
theorem Row.fz {w : World} {e : TypeId} {size g cap : Nat} {cur : List Value} (h : Row w e size g cap cur) (j : Nat) : w.frozen? ⟨g, j, none⟩ = false := by
  simp [World.frozen?, h.h]
theorem add_at (g o j : Nat) : (⟨g, o, none⟩ : Addr).add j = ⟨g, o + j, none⟩ := by unfold Addr.add; split <;> simp_all

theorem Row.of {w : World} {base : Nat} {e : TypeId} {size g n cap : Nat} {xs : List Value} (h : w.ownsRow base e size (.slice (some ⟨g, 0, none⟩) n cap) n xs) :
    base ≤ g ∧ n ≤ cap ∧ ∃ cur, Row w e size g cap cur ∧ cur.take (n * size) = xs := by
  rcases h.2 with ⟨h', _⟩ | ⟨g', cap', cur, h', hb, hg, hn, hm, hs, htake⟩
  · cases h'
  · simp only [Value.slice.injEq, Option.some.injEq, Addr.mk.injEq, and_true, true_and] at h'
    obtain ⟨rfl, rfl⟩ := h'
    exact ⟨hb, hn, cur.toList, ⟨by simpa using hg, by simpa using hs, hm⟩, htake⟩
theorem Row.owns {w : World} {base : Nat} {e : TypeId} {size g n cap : Nat} {cur xs : List Value} (h : Row w e size g cap cur) (hb : base ≤ g) (hn : n ≤ cap) (ht : cur.take (n * size) = xs) :
    w.ownsRow base e size (.slice (some ⟨g, 0, none⟩) n cap) n xs := by
  refine ⟨?_, .inr ⟨g, cap, cur.toArray, rfl, hb, h.h, hn, h.m, by simpa using h.len, by simpa using ht⟩⟩
  rw [← ht, List.length_take, h.len, Nat.min_eq_left (Nat.mul_le_mul_right _ hn)]

theorem splice_take {α : Type} {L cs : List α} {off n : Nat} (h : n ≤ off) (hl : off ≤ L.length) : (splice L off cs).take n = L.take n := by
  unfold splice
  rw [List.take_append_of_le_length (by simp; omega), List.take_take, Nat.min_eq_left h]

/-- append within the capacity, a step of a region that draws. -/
theorem step_append_fits {P : Program} {ops : Array Oper} {o : Oper} {a : Act} {w : World} {K : Act → World → Prop} {Q : Exit → Act → World → Prop} {E : Prop}
    (hg : o.guard = none) (s x : Operand) (t : TypeId) (hop : o.op = Op.call { callee := Callee.builtin Builtin.append, args := #[s, x], argTypes := #[t, t] })
    (e : TypeId) (i : TypeInfo) (size : Nat) (h1 : P.underlying t = some (.slice e)) (h2 : P.info? e = some i) (h4 : i.size = size)
    (base g n cap : Nat) (xs : List Value) (hs : a.eval s = .slice (some ⟨g, 0, none⟩) n cap) (hown : w.ownsRow base e size (.slice (some ⟨g, 0, none⟩) n cap) n xs)
    (xo : Option Addr) (m c : Nat) (news : List Value) (hx : a.eval x = .slice xo m c) (hn : news.length = m * size) (hxo : ∃ ad, xo = some ad ∧ ∀ j u, news[j]? = some u → w.cell? (ad.add j) = some u) (h1c : ∀ u ∈ news, u.oneCell' = true)
    (N : Nat) (hN : n + m = N) (hroom : N ≤ cap)
    (hK : ∀ w', w'.ownsRow base e size (.slice (some ⟨g, 0, none⟩) N cap) N (xs ++ news) → But g w w' → K (a.put o.dst (.slice (some ⟨g, 0, none⟩) N cap)) w') :
    if Region.wanted o (yielded ops a.tmps) = true then Oper.wp P o a w K Q else E := by
  have hw : Region.wanted o (yielded ops a.tmps) = true := by simp [Region.wanted, hg]
  rw [if_pos hw]
  subst hN
  obtain ⟨ad, rfl, hc⟩ := hxo
  obtain ⟨w', hrun, r1, r2⟩ := run_append_fits (P := P) w base t o.type e i size h1 h2 h4 g n cap xs hown ad m c news hn hc h1c hroom
  unfold Oper.wp
  simp [execOp, hop, resolve, invoke, builtin, hs, hx, hrun, Result.andThen]
  exact hK w' r1 ⟨r2.os, r2.tape, r2.output, r2.size, fun k hk hne => r2.block k hk (by intro g; exact hne (by simpa using g))⟩

/-- copy, a step of a region that draws. -/
theorem step_copy_k {P : Program} {ops : Array Oper} {o : Oper} {a : Act} {w : World} {K : Act → World → Prop} {Q : Exit → Act → World → Prop} {E : Prop} (hgd : o.guard = none) (d s : Operand) (dT sT : TypeId)
    (ho : o.op = .call { callee := .builtin .copy, args := #[d, s], argTypes := #[dT, sT] }) (elem : TypeId) (k : Nat) (hu : P.underlying dT = some (.slice elem)) (hsz : (P.info? elem).map (·.size) = some k)
    (dp sp : Option Addr) (dLen dCap sLen sCap : Nat) (hd : a.eval d = .slice dp dLen dCap) (hs : a.eval s = .slice sp sLen sCap)
    (g off : Nat) (cur : List Value) (t : TypeId) (hg : w.heap[g]? = some (.cells cur.toArray t (0, 0))) (cs : List Value) (m : Nat) (hm : Nat.min sLen dLen = m) (hn : cs.length = m * k)
    (hpos : 0 < m → dp = some ⟨g, off, none⟩ ∧ ∃ ad, sp = some ad ∧ ∀ j v, cs[j]? = some v → w.cell? (ad.add j) = some v)
    (hfit : off + cs.length ≤ cur.length) (h1 : ∀ v ∈ cs, v.oneCell' = true)
    (h : ∀ w', Hid (w'.heap[g]? = some (.cells (splice cur off cs).toArray t (0, 0))) → But g w w' → K (a.put o.dst (goInt m)) w') :
    if Region.wanted o (yielded ops a.tmps) = true then Oper.wp P o a w K Q else E := by
  have hw : Region.wanted o (yielded ops a.tmps) = true := by simp [Region.wanted, hgd]
  rw [if_pos hw]
  by_cases h0 : m = 0
  · subst h0
    obtain rfl : cs = [] := List.eq_nil_of_length_eq_zero (by simpa using hn)
    have hrun := run_copy_none_k (P := P) w dT sT o.type elem k dp sp dLen dCap sLen sCap hu hsz hm
    unfold Oper.wp
    simp [execOp, ho, resolve, invoke, builtin, hd, hs, hrun, Result.andThen]
    exact h w (show _ = _ by simpa [splice] using hg) (But.refl _ _)
  · obtain ⟨rfl, ad, rfl, hsrc⟩ := hpos (by omega)
    have hrun := run_copy_row_k (P := P) w dT sT o.type elem k g off dLen dCap ad sLen sCap cur.toArray t cs hu hsz hg (by rw [hm]; exact hn) hsrc (by simpa using hfit) h1
    rw [hm] at hrun
    unfold Oper.wp
    simp [execOp, ho, resolve, invoke, builtin, hd, hs, hrun, Result.andThen]
    exact h _ (show _ = _ by simpa [splice] using setRow_heap w g _ _ t _ hg) (by simpa using but_setRow w g _)

/-- clear of n elements that lie in a row. -/
theorem wpList_clear_k {P : Program} {w : World} {ops : Array Oper} {rest : List Oper} {o : Oper} {a : Act} {Q : Exit → Act → World → Prop} (hgd : o.guard = none) (s : Operand) (t : TypeId)
    (ho : o.op = .call { callee := .builtin .clear, args := #[s], argTypes := #[t] }) (e : TypeId) (z : Value) (k : Nat) (hu : P.underlying t = some (.slice e)) (hv : ∀ w, (zeroValue e).run P w = .ok z w) (hz : z.cells.size = k) (h1 : ∀ v ∈ z.cells, v.oneCell' = true)
    (sp : Option Addr) (n c : Nat) (hs : a.eval s = .slice sp n c) (g off : Nat) (cur : List Value) (hg : w.heap[g]? = some (.cells cur.toArray e (0, 0))) (hpos : 0 < n → sp = some ⟨g, off, none⟩) (hfit : off + n * k ≤ cur.length)
    (h : ∀ (w' : World) (cur' : List Value), Hid (w'.heap[g]? = some (.cells cur'.toArray e (0, 0)) ∧ cur'.length = cur.length ∧ cur'.take off = cur.take off) → But g w w' → wpList P ops Q rest (a.put o.dst (.tuple #[])) w') :
    wpList P ops Q (o :: rest) a w := by
  by_cases h0 : n = 0
  · subst h0
    refine wpList_plain hgd fun K hK => ?_
    have hrun : (Builtin.clear_ #[t] o.type #[.slice sp 0 c]).run P w = .ok (.tuple #[]) w := by
      cases sp <;> simp [Builtin.clear_, run_underlying hu]
    unfold Oper.wp
    simp [execOp, ho, resolve, invoke, builtin, hs, hrun, Result.andThen]
    exact hK _ _ (h w cur ⟨hg, rfl, rfl⟩ (But.refl _ _))
  · obtain rfl := hpos (by omega)
    refine wpList_plain hgd fun K hK => ?_
    obtain ⟨zs, hzs⟩ : ∃ zs, (Builtin.zeroCells z.cells n).toList = zs := ⟨_, rfl⟩
    have hzl : zs.length = n * k := by rw [← hzs, Array.length_toList, size_zeroCells, hz]
    have hz1 : ∀ v ∈ zs, v.oneCell' = true := by
      intro v hv'
      rw [← hzs] at hv'
      obtain ⟨j, hj, rfl⟩ := List.getElem_of_mem hv'
      have hk : 0 < z.cells.size := by
        rcases Nat.eq_zero_or_pos z.cells.size with g | g
        · rw [Array.length_toList, size_zeroCells, g] at hj; omega
        · exact g
      simp only [Array.getElem_toList, Builtin.zeroCells, Array.getElem_map, Array.getElem_range]
      rw [getElem!_pos z.cells _ (Nat.mod_lt _ hk)]
      exact h1 _ (Array.getElem_mem _)
    have hst := run_storeCells_at P g off e zs 0 cur.toArray w hg (by simp; omega) hz1
    have hrun : (Builtin.clear_ #[t] o.type #[.slice (some ⟨g, off, none⟩) n c]).run P w = .ok (.tuple #[]) (w.setRow g (cur.take off ++ zs ++ cur.drop (off + zs.length)).toArray) := by
      obtain ⟨m, rfl⟩ : ∃ m, n = m + 1 := ⟨n - 1, by omega⟩
      simp only [Nat.add_zero] at hst
      simp [Builtin.clear_, run_underlying hu, hv, hzs, hst]
    unfold Oper.wp
    simp [execOp, ho, resolve, invoke, builtin, hs, hrun, Result.andThen]
    refine hK _ _ (h _ (cur.take off ++ zs ++ cur.drop (off + zs.length)) ⟨?_, ?_, ?_⟩ ?_)
    · simpa using setRow_heap w g _ _ e _ hg
    · simp; omega
    · rw [List.append_assoc, List.take_append_of_le_length (by simp; omega), List.take_take, Nat.min_self]
    · simpa using but_setRow w g _

end Go.Proofs.Ytbjlbmofdnkmiaa.Kit

/-
  OWN TEXT. Worlds that differ in two blocks alone; a zone behind a pointer whose rows the call owns; over whatever program. A list without one of its blocks.
-/
namespace Go.Proofs.Ytbjlbmofdnkmiaa.Kit
open Go Go.RowKit

/-- Of what was there only the blocks g and z may differ. -/
structure Bu2 (g z : Nat) (w w' : World) : Prop where
  os : w'.os = w.os
  tape : w'.tape = w.tape
  output : w'.output = w.output
  size : w.heap.size ≤ w'.heap.size
  block : ∀ k, k < w.heap.size → k ≠ g → k ≠ z → w'.heap[k]? = w.heap[k]?
theorem Bu2.refl (g z : Nat) (w : World) : Bu2 g z w w := ⟨rfl, rfl, rfl, Nat.le_refl _, fun _ _ _ _ => rfl⟩
theorem Bu2.trans {g z : Nat} {w w' w'' : World} (h : Bu2 g z w w') (k : Bu2 g z w' w'') : Bu2 g z w w'' :=
  ⟨k.os.trans h.os, k.tape.trans h.tape, k.output.trans h.output, Nat.le_trans h.size k.size, fun j hj h1 h2 => (k.block j (Nat.lt_of_lt_of_le hj h.size) h1 h2).trans (h.block j hj h1 h2)⟩
theorem Bu2.of_but_g {g z : Nat} {w w' : World} (h : But g w w') : Bu2 g z w w' := ⟨h.os, h.tape, h.output, h.size, fun k hk h1 _ => h.block k hk h1⟩
theorem Bu2.of_but_z {g z : Nat} {w w' : World} (h : But z w w') : Bu2 g z w w' := ⟨h.os, h.tape, h.output, h.size, fun k hk _ h1 => h.block k hk h1⟩
theorem Bu2.of_below {g z : Nat} {w w' : World} (h : Below w.heap.size w w') : Bu2 g z w w' := ⟨h.os, h.tape, h.output, h.size, fun k hk _ _ => h.block k hk⟩
theorem Bu2.below {g z B : Nat} {w w' : World} (h : Bu2 g z w w') (hg : B ≤ g) (hz : B ≤ z) (hB : B ≤ w.heap.size) : Below B w w' := ⟨h.os, h.tape, h.output, h.size, fun k hk => h.block k (by omega) (by omega) (by omega)⟩
theorem Bu2.cell {g z c o : Nat} {v : Value} {w w' : World} (h : Bu2 g z w w') (hc : w.cell? ⟨c, o, none⟩ = some v) (h1 : c ≠ g) (h2 : c ≠ z) : w'.cell? ⟨c, o, none⟩ = some v :=
  (World.cell?_of_block (a := ⟨c, o, none⟩) (h.block c (World.block_lt_of_cell? w _ hc) h1 h2)).trans hc
theorem Bu2.zbox {g z b : Nat} {w w' : World} {x y u v : Value} (h : Bu2 g z w w') (hz : ZBox w b x y u v) (h1 : b ≠ g) (h2 : b ≠ z) : ZBox w' b x y u v := by
  have hb := h.block b hz.lt h1 h2
  exact ⟨h.cell hz.c0 h1 h2, h.cell hz.c1 h1 h2, h.cell hz.c2 h1 h2, h.cell hz.c3 h1 h2, (World.frozen?_of_block (a := ⟨b, 0, none⟩) hb).trans hz.z0, (World.frozen?_of_block (a := ⟨b, 1, none⟩) hb).trans hz.z1, (World.frozen?_of_block (a := ⟨b, 2, none⟩) hb).trans hz.z2, (World.frozen?_of_block (a := ⟨b, 3, none⟩) hb).trans hz.z3⟩
theorem Bu2.res {g z b : Nat} {w w' : World} (h : Bu2 g z w w') (hz : Res4 w b) (h1 : b ≠ g) (h2 : b ≠ z) : Res4 w' b := by
  obtain ⟨⟨v0, e0⟩, ⟨v1, e1⟩, ⟨v2, e2⟩, ⟨v3, e3⟩, z0, z1, z2, z3⟩ := hz
  exact (h.zbox ⟨e0, e1, e2, e3, z0, z1, z2, z3⟩ h1 h2).res
theorem Bu2.owns {g z b : Nat} {w w' : World} {base : Nat} {e : TypeId} {size n cap : Nat} {xs : List Value} (h : Bu2 g z w w') (ho : w.ownsRow base e size (.slice (some ⟨b, 0, none⟩) n cap) n xs) (h1 : b ≠ g) (h2 : b ≠ z) : w'.ownsRow base e size (.slice (some ⟨b, 0, none⟩) n cap) n xs := by
  obtain ⟨hb, hn, cur, R, ht⟩ := Row.of ho
  exact Row.owns ⟨(h.block b R.lt h1 h2).trans R.h, R.len, R.m⟩ hb hn ht
/-- The owned row may become another, new one. -/
theorem Bu2.moved {g g' z : Nat} {w w' w'' : World} (h : Bu2 g z w w') (k : Bu2 g' z w' w'') (hg : g' = g ∨ w.heap.size ≤ g') : Bu2 g z w w'' := by
  rcases hg with rfl | hg
  · exact h.trans k
  · exact ⟨k.os.trans h.os, k.tape.trans h.tape, k.output.trans h.output, Nat.le_trans h.size k.size, fun j hj h1 h2 => (k.block j (Nat.lt_of_lt_of_le hj h.size) (by omega) h2).trans (h.block j hj h1 h2)⟩

theorem own_but {w w' : World} {base : Nat} {e : TypeId} {g n cap size c : Nat} {xs : List Value} (h : w.ownsRow base e size (.slice (some ⟨g, 0, none⟩) n cap) n xs) (hb : But c w w') (hne : g ≠ c) :
    w'.ownsRow base e size (.slice (some ⟨g, 0, none⟩) n cap) n xs := by
  obtain ⟨h1, h2, cur, R, ht⟩ := Row.of h
  exact (R.but hb hne).owns h1 h2 ht

/-- Blocks that rise. -/
def Inc (l : List Bk) : Prop := l.Pairwise fun p q => p.a < q.a
theorem Inc.drop {l : List Bk} (h : Inc l) (a o : Int) : Inc (dropB l a o) := List.Pairwise.filter _ h
theorem inc_of_free {f t lo : Int} {pv : Option Bk} {l : List Bk} (h : FreeOk f t lo pv l) : Inc l := by
  suffices H : ∀ (l : List Bk) (lo : Int) (pv : Option Bk), FreeOk f t lo pv l → (∀ b ∈ l, lo ≤ b.a) ∧ Inc l from (H l lo pv h).2
  intro l
  induction l with
  | nil => intro lo pv _; exact ⟨fun b hb => by simp at hb, List.Pairwise.nil⟩
  | cons b l ih =>
    intro lo pv h
    obtain ⟨_, _, h3, _, h5⟩ := h
    obtain ⟨i1, i2⟩ := ih _ _ h5
    have hp := pw_pos b.o
    refine ⟨fun x hx => ?_, List.Pairwise.cons (fun x hx => by have := i1 x hx; omega) i2⟩
    rcases List.mem_cons.1 hx with rfl | hx
    · exact h3
    · have := i1 x hx; omega

theorem drop_none {l : List Bk} {a o : Int} (h : ∀ b ∈ l, isB a o b = false) : dropB l a o = l := by
  unfold dropB
  rw [List.filter_eq_self]
  intro b hb
  rw [h b hb]; rfl
theorem erase_eq {l : List Bk} (hI : Inc l) {a o : Int} {i : Nat} (hi : i < l.length) (h : isB a o (l.getD i .zero) = true) : l.eraseIdx i = dropB l a o := by
  induction l generalizing i with
  | nil => simp at hi
  | cons b l ih =>
    have hI' := List.pairwise_cons.1 hI
    cases i with
    | zero =>
      have hb : isB a o b = true := by simpa using h
      have e : b.a = a := (of_decide_eq_true hb).1
      have : dropB (b :: l) a o = dropB l a o := by unfold dropB; rw [List.filter_cons]; simp [hb]
      rw [this, drop_none (fun x hx => decide_eq_false (fun g => by have := hI'.1 x hx; rw [e, g.1] at this; omega))]
      rfl
    | succ i =>
      have h' : isB a o (l.getD i .zero) = true := by simpa using h
      have hi' : i < l.length := by simpa using hi
      have e : (l.getD i .zero).a = a := (of_decide_eq_true h').1
      have hm : l.getD i .zero ∈ l := by rw [List.getD_eq_getElem?_getD, List.getElem?_eq_getElem hi']; exact List.getElem_mem _
      have hb : isB a o b = false := decide_eq_false (fun g => by have := hI'.1 _ hm; rw [e, g.1] at this; omega)
      have : dropB (b :: l) a o = b :: dropB l a o := by unfold dropB; rw [List.filter_cons]; simp [hb]
      rw [this, List.eraseIdx_cons_succ, ih hI'.2 hi' h']

theorem has_of {l : List Bk} {a o : Int} {i : Nat} (hi : i < l.length) (h : isB a o (l.getD i .zero) = true) : hasB l a o = true := by
  unfold hasB
  rw [List.any_eq_true]
  exact ⟨l[i], List.getElem_mem _, by rw [List.getD_eq_getElem?_getD, List.getElem?_eq_getElem hi] at h; exact h⟩
theorem has_none {l : List Bk} {a o : Int} (h : ∀ j, j < l.length → isB a o (l.getD j .zero) = false) : hasB l a o = false := by
  unfold hasB
  rw [List.any_eq_false]
  intro x hx
  obtain ⟨i, hi, rfl⟩ := List.getElem_of_mem hx
  have := h i hi
  rw [List.getD_eq_getElem?_getD, List.getElem?_eq_getElem hi] at this
  simp only [Option.getD_some] at this
  simp [this]
theorem drop_len {l : List Bk} (hI : Inc l) {a o : Int} {i : Nat} (hi : i < l.length) (h : isB a o (l.getD i .zero) = true) : (dropB l a o).length + 1 = l.length := by
  rw [← erase_eq hI hi h, List.length_eraseIdx_of_lt hi]; omega

end Go.Proofs.Ytbjlbmofdnkmiaa.Kit

/-
  OWN TEXT. Blocks one after the other out of several lists: plain mathematics.
-/
namespace Go.Proofs.Ytbjlbmofdnkmiaa.Kit
open Go Go.RowKit

/-- The first i lists whole, and k of the next one. -/
def preL {α : Type} (F : α → List Bk) (d : α) (l : List α) (i k : Nat) : List Bk := (l.take i).flatMap F ++ (F (l.getD i d)).take k
theorem preL_zero {α : Type} (F : α → List Bk) (d : α) (l : List α) (i : Nat) : preL F d l i 0 = (l.take i).flatMap F := by simp [preL]
theorem preL_full {α : Type} (F : α → List Bk) (d : α) (l : List α) (i k : Nat) (hi : i < l.length) (hk : (F (l.getD i d)).length ≤ k) : preL F d l i k = preL F d l (i + 1) 0 := by
  rw [preL_zero]
  unfold preL
  rw [List.take_of_length_le hk, List.take_succ_eq_append_getElem hi, List.flatMap_append, List.getD_eq_getElem?_getD, List.getElem?_eq_getElem hi]
  simp
theorem preL_succ {α : Type} (F : α → List Bk) (d : α) (l : List α) (i k : Nat) (hk : k < (F (l.getD i d)).length) : preL F d l i (k + 1) = preL F d l i k ++ [(F (l.getD i d)).getD k .zero] := by
  unfold preL
  rw [take_getD _ k hk rfl, List.append_assoc]
theorem preL_rest {α : Type} (F : α → List Bk) (d : α) (l : List α) (i k : Nat) (hi : i < l.length) : ∃ r, l.flatMap F = preL F d l i k ++ r := by
  unfold preL
  have h1 : l = l.take i ++ l.drop i := (List.take_append_drop i l).symm
  have h2 : l.drop i = l.getD i d :: l.drop (i + 1) := by rw [List.drop_eq_getElem_cons hi, List.getD_eq_getElem?_getD, List.getElem?_eq_getElem hi]; rfl
  refine ⟨(F (l.getD i d)).drop k ++ (l.drop (i + 1)).flatMap F, ?_⟩
  conv => lhs; rw [h1]
  rw [List.flatMap_append, h2, List.flatMap_cons, List.append_assoc, ← List.append_assoc ((F (l.getD i d)).take k), List.take_append_drop]
theorem preL_all {α : Type} (F : α → List Bk) (d : α) (l : List α) (i : Nat) (h : l.length ≤ i) : preL F d l i 0 = l.flatMap F := by
  rw [preL_zero, List.take_of_length_le h]

theorem not_apt {P r : List Bk} {b : Bk} (h : ovlP P b.a b.o) : ¬ Apt [] (P ++ [b] ++ r) := by
  intro g
  rw [apt_append, apt_append, apt_one] at g
  exact g.1.2 (by simpa using h)
theorem apt_snoc {P : List Bk} {b : Bk} (h : Apt [] P) (hn : ¬ ovlP P b.a b.o) : Apt [] (P ++ [b]) := by
  rw [apt_append, apt_one]
  exact ⟨h, by simpa using hn⟩

theorem nodup_len : ∀ (n : Nat) (l : List Int), l.Nodup → (∀ x ∈ l, 0 ≤ x ∧ x < n) → l.length ≤ n
  | 0, [], _, _ => Nat.le_refl _
  | 0, x :: l, _, h => by have := h x List.mem_cons_self; omega
  | n + 1, l, hd, h => by
    by_cases hm : (n : Int) ∈ l
    · have h1 := nodup_len n (l.erase n) (hd.erase _) (fun x hx => by
        have h2 := (hd.mem_erase_iff).1 hx
        have h3 := h x h2.2
        have h4 : x ≠ n := h2.1
        omega)
      have h5 := List.length_erase_of_mem hm
      have := List.length_pos_of_mem hm
      omega
    · have := nodup_len n l hd (fun x hx => by
        have h3 := h x hx
        have : x ≠ n := fun e => hm (e ▸ hx)
        omega)
      omega
theorem apt_len {P : List Bk} (h : Apt [] P) (hi : ∀ i, i < P.length → InP (P.getD i .zero)) : P.length ≤ 256 := by
  have hn : (P.map (·.a)).Nodup := by
    rw [List.nodup_iff_pairwise_ne, List.pairwise_iff_getElem]
    intro i j hi' hj' hij
    simp only [List.length_map] at hi' hj'
    simp only [List.getElem_map]
    intro e
    refine h j hj' ⟨i, by simp; omega, ?_⟩
    have e1 : (([] : List Bk) ++ P.take j).getD i .zero = P[i] := by
      rw [List.nil_append, List.getD_eq_getElem?_getD, List.getElem?_take_of_lt hij, List.getElem?_eq_getElem hi']; rfl
    have e2 : P.getD j .zero = P[j] := by rw [List.getD_eq_getElem?_getD, List.getElem?_eq_getElem hj']; rfl
    rw [e1, e2]
    have p1 := pw_pos P[i].o
    have p2 := pw_pos P[j].o
    constructor <;> omega
  have := nodup_len 256 _ hn (fun x hx => by
    obtain ⟨b, hb, rfl⟩ := List.mem_map.1 hx
    obtain ⟨i, hi', rfl⟩ := List.getElem_of_mem hb
    have := hi i hi'
    rw [List.getD_eq_getElem?_getD, List.getElem?_eq_getElem hi'] at this
    obtain ⟨_, h2, h3⟩ := this
    have := pw_pos P[i].o
    simp only [Option.getD_some] at h2 h3
    omega)
  simpa using this
theorem inP_snoc {P : List Bk} {b : Bk} (h : ∀ i, i < P.length → InP (P.getD i .zero)) (hb : InP b) : ∀ i, i < (P ++ [b]).length → InP ((P ++ [b]).getD i .zero) := by
  intro i hi
  by_cases hl : i < P.length
  · rw [getD_append_left _ _ _ _ hl]; exact h i hl
  · obtain rfl : i = P.length + 0 := by simp at hi; omega
    rw [getD_append_right]
    exact hb
theorem Bu2.grow {g z : Nat} {w w' w'' : World} (h : Bu2 g z w w') (hb : Below w'.heap.size w' w'') : Bu2 g z w w'' := h.trans (Bu2.of_below hb)
theorem Bu2.start (g z : Nat) {w w' : World} (h : ({ w with drawn := w.drawn + 1 } : World) = w') : Bu2 g z w w' := by
  subst h
  exact Bu2.of_below ((Below.refl w.heap.size w).drew)
theorem drawn_b {w w' : World} (h : ({ w with drawn := w.drawn + 1 } : World) = w') : Below w.heap.size w w' := by
  subst h
  exact (Below.refl w.heap.size w).drew
theorem Bu2.row {g z b : Nat} {w w' : World} {o : Obj} (h : Bu2 g z w w') (hr : w.heap[b]? = some o) (h1 : b ≠ g) (h2 : b ≠ z) : w'.heap[b]? = some o := by
  rw [h.block b (Array.getElem?_eq_some_iff.1 hr).1 h1 h2]; exact hr


end Go.Proofs.Ytbjlbmofdnkmiaa.Kit

/-
  OWN TEXT. A zone or none is returned, and a code.
-/
namespace Go.Proofs.Ytbjlbmofdnkmiaa.Kit
open Go Go.RowKit

/-- A zone is returned, and a code. -/
def RetAny (w' : World) (Z : Zn) (c : Int) (e : Ending) : Prop :=
  ∃ fo fn fc to_ tn tc, e = .returned (.tuple #[.agg #[.int .i64 Z.f, .int .i64 Z.t, .slice fo fn fc, .slice to_ tn tc], .int .i64 c]) ∧ ZnAt w' fo fn to_ tn Z
/-- A zone in new memory is returned. -/
def RetZ (B : Nat) (w' : World) (z : Zn) (e : Ending) : Prop :=
  ∃ fo fn fc to_ tn tc, e = .returned (.agg #[.int .i64 z.f, .int .i64 z.t, .slice fo fn fc, .slice to_ tn tc]) ∧ ZnAt w' fo fn to_ tn z ∧ Fresh B fo ∧ Fresh B to_

theorem RetZone.any {B : Nat} {w' : World} {Z : Zn} {e : Ending} (h : RetZone B w' Z e) : RetAny w' Z 0 e := by
  obtain ⟨fo, fn, fc, to_, tn, tc, he, hz, _, _⟩ := h
  exact ⟨fo, fn, fc, to_, tn, tc, he, hz⟩
theorem RetNone.any {c : Int} {w' : World} {e : Ending} (h : RetNone c e) : RetAny w' ⟨0, 0, [], []⟩ c e :=
  ⟨none, 0, 0, none, 0, 0, h, ⟨Blks.nil _, Nums.nil _⟩⟩

end Go.Proofs.Ytbjlbmofdnkmiaa.Kit

/-
  OWN TEXT. Closed facts on the type api.Block.
-/
namespace Go.Proofs.Ytbjlbmofdnkmiaa
open Go Go.RowKit Go.Proofs.Ytbjlbmofdnkmiaa.Kit

theorem info_block : (Try.prog.info? 63).map (fun i => (i.zero, i.size, i.bytes)) = some (some (.agg #[.int .i64 0, .int .i64 0, .int .i64 0]), 3, 24) := by kernel_rfl

theorem size_block : (Try.prog.info? 63).map (·.size) = some 3 := by kernel_rfl

end Go.Proofs.Ytbjlbmofdnkmiaa

/-
  OWN TEXT. The form's own reach, part by part, over whatever program.
-/
namespace Go.Proofs.Ytbjlbmofdnkmiaa.Kit
open Go Go.RowKit

/-- Each string, slice and map of a datum is within the reach. -/
def Sized {H : Type} (P : Program) (t : TypeId) (d : DataW H) : Prop := ∀ n ∈ d.weights P t, n ≤ reachBytes

theorem sized_arg {H : Type} {P : Program} {ts : List TypeId} {ds : List (DataW H)} (h : (DataW.weightsEach P ts ds).all (· ≤ reachBytes) = true) {j : Nat} {t : TypeId} {d : DataW H} (ht : ts[j]? = some t) (hd : ds[j]? = some d) : Sized P t d := by
  intro n hn
  have := List.all_eq_true.1 h _ (DataW.weights_mem_each ht hd n hn)
  simpa using this

theorem sized_field {H : Type} {P : Program} {t u : TypeId} {fs : Array Field} {parts : List (DataW H)} {d : DataW H} (h : Sized P t (.agg parts)) (ht : P.underlying t = some (.struct fs)) {i : Nat} (hu : (fs.toList.map (·.type))[i]? = some u) (hd : parts[i]? = some d) : Sized P u d := by
  intro n hn
  apply h
  have := DataW.weights_mem_each hu hd n hn
  simpa [DataW.weights, ht] using this

theorem sized_sl {H : Type} {P : Program} {t e : TypeId} {elems spare : List (DataW H)} (h : Sized P t (.slice elems spare)) (ht : P.underlying t = some (.slice e)) : (elems.length + spare.length) * P.bytesOf e ≤ reachBytes :=
  h _ (by simp [DataW.weights, ht])

end Go.Proofs.Ytbjlbmofdnkmiaa.Kit

/-
  OWN TEXT. How an argument that is a zone (api.Zone) is opened for the walk, over whatever program.
-/
namespace Go.Proofs.Ytbjlbmofdnkmiaa.Kit
open Go Go.RowKit Go.ChangeShapes Go.WideShapes Go.ChangeAt Go.Joins Go.Deep

/-- The numbers are words. -/
structure Bk.Fits (b : Bk) : Prop where
  a : (Lit.int .i64 b.a).wf = true
  o : (Lit.int .i64 b.o).wf = true
  t : (Lit.int .i64 b.t).wf = true

/-- What the walk is told of a slice of blocks that came in. -/
structure IsBlks (w : World) (ao : Option Addr) (n cap : Nat) (l : List Bk) : Prop where
  len : l.length = n
  le : n ≤ cap
  reach : cap * 24 ≤ 140737488351232
  at_ : BlksAt w ao l
  wf : ∀ i, i < n → (l.getD i .zero).Fits

/-- What the walk is told of a zone that came in. -/
structure IsZone (w : World) (fo : Option Addr) (fn fc : Nat) (to_ : Option Addr) (tn tc : Nat) (z : Zn) : Prop where
  fr : IsBlks w fo fn fc z.free
  ty : IsInts w to_ tn tc z.types
  wf : (Lit.int .i64 z.f).wf = true
  wt : (Lit.int .i64 z.t).wf = true

theorem IsZone.zn {w : World} {fo : Option Addr} {fn fc : Nat} {to_ : Option Addr} {tn tc : Nat} {z : Zn} (h : IsZone w fo fn fc to_ tn tc z) : ZnAt w fo fn to_ tn z :=
  ⟨⟨h.fr.len, by have := h.fr.reach; have := h.fr.le; omega, h.fr.at_⟩, ⟨h.ty.len, by have := h.ty.reach; have := h.ty.le; omega, h.ty.at_⟩⟩

theorem open_blks {H : Type} {enc : TypeId × Value → H} {P : Program} {W : World} {t e : TypeId} {f0 f1 f2 : Field} {fuel : Nat} {v : Value} {y : DataW H × List MemPlace}
    (ht : P.underlying t = some (.slice e)) (he : P.underlying e = some (.struct #[f0, f1, f2])) (ce : P.cellsOf e = 3) (be : P.bytesOf e = 24)
    (hone : oneCellFields P #[f0, f1, f2] = true) (u0 : P.underlying f0.type = some (.int .i64)) (u1 : P.underlying f1.type = some (.int .i64)) (u2 : P.underlying f2.type = some (.int .i64))
    (hf : DataW.trod enc P W 0 (fun _ => true) true fuel t [v] = some y) (hs : Sized P t y.1) :
    ∃ ao n cap l, v = .slice ao n cap ∧ IsBlks W ao n cap l := by
  rcases open_slice ht hf with ⟨hcs, _⟩ | ⟨a, n, m0, m, fu, D, Pl, hcs, _, hl, hm, hmm, hx, hc⟩
  · simp only [List.cons.injEq, and_true] at hcs
    subst hcs
    exact ⟨none, 0, 0, [], rfl, ⟨rfl, by omega, by omega, BlksAt.nil _ _, fun i hi => by omega⟩⟩
  · simp only [List.cons.injEq, and_true] at hcs
    subst hcs
    simp only [if_true] at hmm
    subst hmm
    have hr := hx ▸ hs
    have hr2 := sized_sl hr ht
    rw [be] at hr2
    simp only [List.length_map, List.length_range, reachBytes] at hr2
    rw [ce] at hc
    obtain ⟨o0, k0⟩ := hone_of hone 0 f0 rfl
    obtain ⟨o1, k1⟩ := hone_of hone 1 f1 rfl
    obtain ⟨o2, k2⟩ := hone_of hone 2 f2 rfl
    have each : ∀ i, i < m → ∃ r : Bk, r.Fits ∧ W.cell? (a.add (i * 3)) = some (.int .i64 r.a) ∧ W.cell? (a.add (i * 3 + 1)) = some (.int .i64 r.o) ∧ W.cell? (a.add (i * 3 + 2)) = some (.int .i64 r.t) := by
      intro i hi
      obtain ⟨cs', h1, h2⟩ := hc i hi
      obtain ⟨_, hlen, hcell⟩ := World.cells?_some h1
      obtain ⟨y0, y1, y2, q, _, _, g0, g1, g2⟩ := trod_struct3 he h2
      match cs', hlen with
      | [v0, v1, v2], _ =>
        simp [o0, k0] at g0
        simp [o1, k1] at g1
        simp [o2, k2] at g2
        obtain ⟨x0, e0, _, w0⟩ := DataW.trod_int u0 g0
        obtain ⟨x1, e1, _, w1⟩ := DataW.trod_int u1 g1
        obtain ⟨x2, e2, _, w2⟩ := DataW.trod_int u2 g2
        simp only [List.cons.injEq, and_true] at e0 e1 e2
        subst e0 e1 e2
        have c0 := hcell 0 (by omega)
        have c1 := hcell 1 (by omega)
        have c2 := hcell 2 (by omega)
        rw [add_add] at c0 c1 c2
        exact ⟨⟨x0, x1, x2⟩, ⟨w0, w1, w2⟩, by simpa using c0, by simpa using c1, by simpa using c2⟩
    have inh : Inhabited Bk := ⟨Bk.zero⟩
    obtain ⟨g, hg⟩ := choose_lt each
    have hget : ∀ i, i < n → ((List.range n).map g).getD i .zero = g i := by
      intro i hi
      simp [List.getD_eq_getElem?_getD, hi]
    refine ⟨some a, n, m, (List.range n).map g, rfl, ⟨by simp, hl, by omega, ?_, fun i hi => by rw [hget i hi]; exact (hg i (by omega)).1⟩⟩
    intro i hi
    have hi' : i < n := by simpa using hi
    obtain ⟨_, d0, d1, d2⟩ := hg i (by omega)
    obtain ⟨b, off, spot⟩ := a
    have hspot : spot = none := by
      have := World.cell?_spot (hg 0 (by omega)).2.1
      simpa [Addr.add] using this
    subst hspot
    have hadd : ∀ j, (⟨b, off, none⟩ : Addr).add j = ⟨b, off + j, none⟩ := fun j => by unfold Addr.add; split <;> simp_all
    rw [hadd] at d0 d1 d2
    rw [hget i hi']
    exact ⟨b, off, rfl, d0, by rw [Nat.add_assoc]; exact d1, by rw [Nat.add_assoc]; exact d2⟩

theorem open_ints_in {H : Type} {enc : TypeId × Value → H} {P : Program} {W : World} {t e : TypeId} {fuel : Nat} {v : Value} {y : DataW H × List MemPlace}
    (ht : P.underlying t = some (.slice e)) (he : P.underlying e = some (.int .i64)) (hc : P.cellsOf e = 1) (be : P.bytesOf e = 8)
    (hf : DataW.trod enc P W 0 (fun _ => true) true fuel t [v] = some y) (hs : Sized P t y.1) :
    ∃ ao n cap xs, v = .slice ao n cap ∧ IsInts W ao n cap xs := by
  rcases open_ints ht he hc hf with ⟨hcs, _⟩ | ⟨x, n, cap, zs, hcs, _, hl, hm, hz, hx, hcell, _⟩
  · simp only [List.cons.injEq, and_true] at hcs
    subst hcs
    exact ⟨none, 0, 0, [], rfl, ⟨rfl, by omega, by omega, fun _ => ⟨rfl, rfl⟩, IntsAt.nil _ _⟩⟩
  · simp only [List.cons.injEq, and_true] at hcs
    subst hcs
    simp only [if_true] at hz
    have hr := hx ▸ hs
    have hr2 := sized_sl hr ht
    rw [be] at hr2
    simp only [lits, List.length_map, List.length_take, List.length_drop, reachBytes] at hr2
    have hr' : cap * 8 ≤ 140737488351232 := by omega
    refine ⟨some x, n, cap, zs.take n, rfl, ⟨by simp; omega, hl, hr', fun h => (by cases h), ?_⟩⟩
    intro i hi
    have hi' : i < n := by simp at hi; omega
    have hci := hcell i (by omega)
    obtain ⟨b, off, spot⟩ := x
    have hspot : spot = none := by
      by_cases h0 : i = 0
      · subst h0; simpa [Addr.add] using World.cell?_spot hci
      · have := World.cell?_spot (hcell 0 (by omega)); simpa [Addr.add] using this
    subst hspot
    refine ⟨b, off, rfl, ?_⟩
    have hadd : (⟨b, off, none⟩ : Addr).add i = ⟨b, off + i, none⟩ := by unfold Addr.add; split <;> simp_all
    rw [hadd] at hci
    rw [hci]
    simp [List.getD_eq_getElem?_getD, hi']

theorem open_zone_arg {H : Type} {enc : TypeId × Value → H} {P : Program} {W : World} {base : Nat} {zt t e u i : TypeId} {g0 g1 g2 g3 f0 f1 f2 : Field} {v : Value} {d : DataW H} {p : List MemPlace}
    (hb : P.underlying zt = some (.struct #[g0, g1, g2, g3])) (hone : oneCellFields P #[g0, g1, g2, g3] = true) (cb : P.cellsOf zt = 4) (t2 : g2.type = t) (t3 : g3.type = u)
    (ht : P.underlying t = some (.slice e)) (he : P.underlying e = some (.struct #[f0, f1, f2])) (ce : P.cellsOf e = 3) (be : P.bytesOf e = 24) (hone2 : oneCellFields P #[f0, f1, f2] = true)
    (u0 : P.underlying f0.type = some (.int .i64)) (u1 : P.underlying f1.type = some (.int .i64)) (u2 : P.underlying f2.type = some (.int .i64))
    (hu : P.underlying u = some (.slice i)) (hi : P.underlying i = some (.int .i64)) (ci : P.cellsOf i = 1) (bi : P.bytesOf i = 8)
    (w0 : P.underlying g0.type = some (.int .i64)) (w1 : P.underlying g1.type = some (.int .i64))
    (hv : Value.okWide P W .any base zt v) (h : DataW.Trod enc P W 0 (fun _ => true) true zt v d p) (hs : Sized P zt d) :
    ∃ f t fo fn fc to_ tn tc fr ty, v = .agg #[.int .i64 f, .int .i64 t, .slice fo fn fc, .slice to_ tn tc] ∧ IsZone W fo fn fc to_ tn tc ⟨f, t, fr, ty⟩ := by
  obtain ⟨v0, v1, v2, v3, y0, y1, y2, y3, m, rfl, rfl, _, h0, h1, h2, h3⟩ := open_agg4 hb hone cb hv h
  have s2 : Sized P t y2.1 := sized_field hs hb (i := 2) (by simp [t2]) rfl
  have s3 : Sized P u y3.1 := sized_field hs hb (i := 3) (by simp [t3]) rfl
  rw [t2] at h2
  rw [t3] at h3
  obtain ⟨x, e0, _, f0w⟩ := DataW.trod_int w0 h0
  obtain ⟨z, e1, _, f1w⟩ := DataW.trod_int w1 h1
  simp only [List.cons.injEq, and_true] at e0 e1
  subst e0 e1
  obtain ⟨fo, fn, fc, fr, rfl, hF⟩ := open_blks ht he ce be hone2 u0 u1 u2 h2 s2
  obtain ⟨to_, tn, tc, ty, rfl, hT⟩ := open_ints_in hu hi ci bi h3 s3
  exact ⟨x, z, fo, fn, fc, to_, tn, tc, fr, ty, rfl, ⟨hF, hT, f0w, f1w⟩⟩

/-- The numbers of a zone are words. -/
structure ZFits (z : Zn) : Prop where
  f : (Lit.int .i64 z.f).wf = true
  t : (Lit.int .i64 z.t).wf = true
  fr : ∀ i, i < z.free.length → (z.free.getD i .zero).Fits

theorem IsZone.fits {w : World} {fo : Option Addr} {fn fc : Nat} {to_ : Option Addr} {tn tc : Nat} {z : Zn} (h : IsZone w fo fn fc to_ tn tc z) : ZFits z := ⟨h.wf, h.wt, fun i hi => h.fr.wf i (by have := h.fr.len; omega)⟩

end Go.Proofs.Ytbjlbmofdnkmiaa.Kit

/-
  OWN TEXT. How an argument that is a heap of pages (api.Heap) is opened for the walk, over whatever program.
-/
namespace Go.Proofs.Ytbjlbmofdnkmiaa.Kit
open Go Go.RowKit Go.ChangeShapes Go.WideShapes Go.ChangeAt Go.Joins Go.Deep

theorem sized_elem {H : Type} {P : Program} {t e : TypeId} {elems spare : List (DataW H)} {d : DataW H} (h : Sized P t (.slice elems spare)) (ht : P.underlying t = some (.slice e)) (hd : d ∈ elems) : Sized P e d := by
  have hall : ∀ (l : List (DataW H)), d ∈ l → ∀ n ∈ d.weights P e, n ∈ DataW.weightsAll P e l := by
    intro l
    induction l with
    | nil => intro h; cases h
    | cons x l ih =>
      intro hx n hn
      simp only [DataW.weightsAll, List.mem_append]
      rcases List.mem_cons.1 hx with rfl | hx
      · exact .inl hn
      · exact .inr (ih hx n hn)
  intro n hn
  apply h
  simp only [DataW.weights, ht, List.mem_cons, List.mem_append]
  exact .inr (.inl (hall _ hd n hn))

/-- The numbers of a zone are words. -/
structure Lc.Fits (x : Lc) : Prop where
  c : (Lit.int .i64 x.l.c).wf = true
  z : (Lit.int .i64 x.l.z).wf = true
  t : (Lit.int .i64 x.l.t).wf = true

/-- What the walk is told of a heap that came in. -/
structure IsHeap (w : World) (x : Hx) : Prop where
  at_ : x.At w
  zf : ∀ z ∈ x.zs, ZFits z.z
  lf : ∀ l ∈ x.ls, l.Fits
  vf : ∀ i, i < x.vn → (x.live.getD i .zero).Fits
  cf : (Lit.int .i64 x.cpus).wf = true

theorem add_none {b off j : Nat} : (⟨b, off, none⟩ : Addr).add j = ⟨b, off + j, none⟩ := by unfold Addr.add; split <;> simp_all

section
variable {H : Type} {enc : TypeId × Value → H} {P : Program} {W : World} {fuel : Nat} {v : Value} {y : DataW H × List MemPlace}
theorem open_zones {t e zt bt u i : TypeId} {g0 g1 g2 g3 f0 f1 f2 : Field}
    (ht : P.underlying t = some (.slice zt)) (hb : P.underlying zt = some (.struct #[g0, g1, g2, g3])) (hone : oneCellFields P #[g0, g1, g2, g3] = true) (cb : P.cellsOf zt = 4) (bb : P.bytesOf zt = 64) (t2 : g2.type = bt) (t3 : g3.type = u)
    (hbt : P.underlying bt = some (.slice e)) (he : P.underlying e = some (.struct #[f0, f1, f2])) (ce : P.cellsOf e = 3) (be : P.bytesOf e = 24) (hone2 : oneCellFields P #[f0, f1, f2] = true)
    (u0 : P.underlying f0.type = some (.int .i64)) (u1 : P.underlying f1.type = some (.int .i64)) (u2 : P.underlying f2.type = some (.int .i64))
    (hu : P.underlying u = some (.slice i)) (hi : P.underlying i = some (.int .i64)) (ci : P.cellsOf i = 1) (bi : P.bytesOf i = 8)
    (w0 : P.underlying g0.type = some (.int .i64)) (w1 : P.underlying g1.type = some (.int .i64))
    (hf : DataW.trod enc P W 0 (fun _ => true) true fuel t [v] = some y) (hs : Sized P t y.1) :
    ∃ ao n cap l, v = .slice ao n cap ∧ Zons W ao n l ∧ ∀ x ∈ l, ZFits x.z := by
  rcases open_slice ht hf with ⟨hcs, _⟩ | ⟨a, n, m0, m, fu, D, Pl, hcs, _, hl, hm, hmm, hx, hc⟩
  · simp only [List.cons.injEq, and_true] at hcs
    subst hcs
    exact ⟨none, 0, 0, [], rfl, Zons.nil _, fun _ h => by cases h⟩
  · simp only [List.cons.injEq, and_true] at hcs
    subst hcs
    simp only [if_true] at hmm
    subst hmm
    have hr := hx ▸ hs
    have hr2 := sized_sl hr ht
    rw [bb] at hr2
    simp only [List.length_map, List.length_range, reachBytes] at hr2
    rw [cb] at hc
    obtain ⟨o0, k0⟩ := hone_of hone 0 g0 rfl
    obtain ⟨o1, k1⟩ := hone_of hone 1 g1 rfl
    obtain ⟨o2, k2⟩ := hone_of hone 2 g2 rfl
    obtain ⟨o3, k3⟩ := hone_of hone 3 g3 rfl
    have each : ∀ i, i < n → ∃ r : Zc, r.At W ∧ ZFits r.z ∧ W.cell? (a.add (i * 4)) = some r.q.a ∧ W.cell? (a.add (i * 4 + 1)) = some r.q.b ∧ W.cell? (a.add (i * 4 + 2)) = some r.q.c ∧ W.cell? (a.add (i * 4 + 3)) = some r.q.d := by
      intro i hi
      obtain ⟨cs', h1, h2⟩ := hc i (by omega)
      obtain ⟨_, hlen, hcell⟩ := World.cells?_some h1
      obtain ⟨y0, y1, y2, y3, q, hD, _, q0, q1, q2, q3⟩ := trod_struct4 hb h2
      have hse : Sized P zt (D i) := sized_elem hr ht (by rw [List.mem_map]; exact ⟨i, List.mem_range.2 hi, rfl⟩)
      simp only [Prod.mk.injEq] at hD
      rw [hD.1] at hse
      have s2 : Sized P bt y2.1 := sized_field hse hb (i := 2) (by simp [t2]) rfl
      have s3 : Sized P u y3.1 := sized_field hse hb (i := 3) (by simp [t3]) rfl
      match cs', hlen with
      | [v0, v1, v2, v3], _ =>
        simp [o0, k0] at q0
        simp [o1, k1] at q1
        simp [o2, k2] at q2
        simp [o3, k3] at q3
        rw [t2] at q2
        rw [t3] at q3
        obtain ⟨x0, e0, _, f0w⟩ := DataW.trod_int w0 q0
        obtain ⟨x1, e1, _, f1w⟩ := DataW.trod_int w1 q1
        simp only [List.cons.injEq, and_true] at e0 e1
        subst e0 e1
        obtain ⟨fo, fn, fc, fr, rfl, hF⟩ := open_blks hbt he ce be hone2 u0 u1 u2 q2 s2
        obtain ⟨to_, tn, tc, ty, rfl, hT⟩ := open_ints_in hu ‹_› ci bi q3 s3
        have c0 := hcell 0 (by omega)
        have c1 := hcell 1 (by omega)
        have c2 := hcell 2 (by omega)
        have c3 := hcell 3 (by omega)
        rw [add_add] at c0 c1 c2 c3
        have hz : IsZone W fo fn fc to_ tn tc ⟨x0, x1, fr, ty⟩ := ⟨hF, hT, f0w, f1w⟩
        exact ⟨⟨⟨x0, x1, fr, ty⟩, fo, fn, fc, to_, tn, tc⟩, hz.zn, hz.fits, by simpa [Zc.q] using c0, by simpa [Zc.q] using c1, by simpa [Zc.q] using c2, by simpa [Zc.q] using c3⟩
    have inh : Inhabited Zc := ⟨Zc.zero⟩
    obtain ⟨g, hg⟩ := choose_lt each
    have hget : ∀ i, i < n → (((List.range n).map g).map Zc.q).getD i .zero = (g i).q := by
      intro i hi
      simp [List.getD_eq_getElem?_getD, hi]
    have hmem : ∀ x ∈ (List.range n).map g, ∃ i, i < n ∧ x = g i := by
      intro x hx
      rw [List.mem_map] at hx
      obtain ⟨i, hi, rfl⟩ := hx
      exact ⟨i, List.mem_range.1 hi, rfl⟩
    refine ⟨some a, n, m, (List.range n).map g, rfl, ⟨by simp, by omega, ?_, fun x hx => ?_⟩, fun x hx => ?_⟩
    · intro i hi
      have hi' : i < n := by simpa using hi
      obtain ⟨_, _, d0, d1, d2, d3⟩ := hg i hi'
      obtain ⟨b, off, spot⟩ := a
      have hspot : spot = none := by
        have := World.cell?_spot (hg 0 (by omega)).2.2.1
        simpa [Addr.add] using this
      subst hspot
      rw [add_none] at d0 d1 d2 d3
      rw [hget i hi']
      exact ⟨b, off, rfl, d0, by rw [Nat.add_assoc]; exact d1, by rw [Nat.add_assoc]; exact d2, by rw [Nat.add_assoc]; exact d3⟩
    · obtain ⟨i, hi, rfl⟩ := hmem x hx
      exact (hg i hi).1
    · obtain ⟨i, hi, rfl⟩ := hmem x hx
      exact (hg i hi).2.1

theorem open_lists {t lt u i : TypeId} {g0 g1 g2 g3 : Field}
    (ht : P.underlying t = some (.slice lt)) (hb : P.underlying lt = some (.struct #[g0, g1, g2, g3])) (hone : oneCellFields P #[g0, g1, g2, g3] = true) (cb : P.cellsOf lt = 4) (bb : P.bytesOf lt = 48) (t3 : g3.type = u)
    (hu : P.underlying u = some (.slice i)) (hi : P.underlying i = some (.int .i64)) (ci : P.cellsOf i = 1) (bi : P.bytesOf i = 8)
    (w0 : P.underlying g0.type = some (.int .i64)) (w1 : P.underlying g1.type = some (.int .i64)) (w2 : P.underlying g2.type = some (.int .i64))
    (hf : DataW.trod enc P W 0 (fun _ => true) true fuel t [v] = some y) (hs : Sized P t y.1) :
    ∃ ao n cap l, v = .slice ao n cap ∧ Lsts W ao n l ∧ ∀ x ∈ l, x.Fits := by
  rcases open_slice ht hf with ⟨hcs, _⟩ | ⟨a, n, m0, m, fu, D, Pl, hcs, _, hl, hm, hmm, hx, hc⟩
  · simp only [List.cons.injEq, and_true] at hcs
    subst hcs
    exact ⟨none, 0, 0, [], rfl, Lsts.nil _, fun _ h => by cases h⟩
  · simp only [List.cons.injEq, and_true] at hcs
    subst hcs
    simp only [if_true] at hmm
    subst hmm
    have hr := hx ▸ hs
    have hr2 := sized_sl hr ht
    rw [bb] at hr2
    simp only [List.length_map, List.length_range, reachBytes] at hr2
    rw [cb] at hc
    obtain ⟨o0, k0⟩ := hone_of hone 0 g0 rfl
    obtain ⟨o1, k1⟩ := hone_of hone 1 g1 rfl
    obtain ⟨o2, k2⟩ := hone_of hone 2 g2 rfl
    obtain ⟨o3, k3⟩ := hone_of hone 3 g3 rfl
    have each : ∀ i, i < n → ∃ r : Lc, r.At W ∧ r.Fits ∧ W.cell? (a.add (i * 4)) = some r.q.a ∧ W.cell? (a.add (i * 4 + 1)) = some r.q.b ∧ W.cell? (a.add (i * 4 + 2)) = some r.q.c ∧ W.cell? (a.add (i * 4 + 3)) = some r.q.d := by
      intro i hi
      obtain ⟨cs', h1, h2⟩ := hc i (by omega)
      obtain ⟨_, hlen, hcell⟩ := World.cells?_some h1
      obtain ⟨y0, y1, y2, y3, q, hD, _, q0, q1, q2, q3⟩ := trod_struct4 hb h2
      have hse : Sized P lt (D i) := sized_elem hr ht (by rw [List.mem_map]; exact ⟨i, List.mem_range.2 hi, rfl⟩)
      simp only [Prod.mk.injEq] at hD
      rw [hD.1] at hse
      have s3 : Sized P u y3.1 := sized_field hse hb (i := 3) (by simp [t3]) rfl
      match cs', hlen with
      | [v0, v1, v2, v3], _ =>
        simp [o0, k0] at q0
        simp [o1, k1] at q1
        simp [o2, k2] at q2
        simp [o3, k3] at q3
        rw [t3] at q3
        obtain ⟨x0, e0, _, f0w⟩ := DataW.trod_int w0 q0
        obtain ⟨x1, e1, _, f1w⟩ := DataW.trod_int w1 q1
        obtain ⟨x2, e2, _, f2w⟩ := DataW.trod_int w2 q2
        simp only [List.cons.injEq, and_true] at e0 e1 e2
        subst e0 e1 e2
        obtain ⟨to_, tn, tc, ty, rfl, hT⟩ := open_ints_in hu ‹_› ci bi q3 s3
        have c0 := hcell 0 (by omega)
        have c1 := hcell 1 (by omega)
        have c2 := hcell 2 (by omega)
        have c3 := hcell 3 (by omega)
        rw [add_add] at c0 c1 c2 c3
        exact ⟨⟨⟨x0, x1, x2, ty⟩, to_, tn, tc⟩, ⟨hT.len, by have := hT.reach; have := hT.le; show tn * 8 ≤ _; omega, hT.at_⟩, ⟨f0w, f1w, f2w⟩, by simpa [Lc.q] using c0, by simpa [Lc.q] using c1, by simpa [Lc.q] using c2, by simpa [Lc.q] using c3⟩
    have inh : Inhabited Lc := ⟨Lc.zero⟩
    obtain ⟨g, hg⟩ := choose_lt each
    have hget : ∀ i, i < n → (((List.range n).map g).map Lc.q).getD i .zero = (g i).q := by
      intro i hi
      simp [List.getD_eq_getElem?_getD, hi]
    have hmem : ∀ x ∈ (List.range n).map g, ∃ i, i < n ∧ x = g i := by
      intro x hx
      rw [List.mem_map] at hx
      obtain ⟨i, hi, rfl⟩ := hx
      exact ⟨i, List.mem_range.1 hi, rfl⟩
    refine ⟨some a, n, m, (List.range n).map g, rfl, ⟨by simp, by omega, ?_, fun x hx => ?_⟩, fun x hx => ?_⟩
    · intro i hi
      have hi' : i < n := by simpa using hi
      obtain ⟨_, _, d0, d1, d2, d3⟩ := hg i hi'
      obtain ⟨b, off, spot⟩ := a
      have hspot : spot = none := by
        have := World.cell?_spot (hg 0 (by omega)).2.2.1
        simpa [Addr.add] using this
      subst hspot
      rw [add_none] at d0 d1 d2 d3
      rw [hget i hi']
      exact ⟨b, off, rfl, d0, by rw [Nat.add_assoc]; exact d1, by rw [Nat.add_assoc]; exact d2, by rw [Nat.add_assoc]; exact d3⟩
    · obtain ⟨i, hi, rfl⟩ := hmem x hx
      exact (hg i hi).1
    · obtain ⟨i, hi, rfl⟩ := hmem x hx
      exact (hg i hi).2.1
end

theorem array5 {α : Type} {cs : Array α} (h : cs.size = 5) : ∃ c0 c1 c2 c3 c4, cs = #[c0, c1, c2, c3, c4] := by
  obtain ⟨l⟩ := cs
  match l, h with
  | [c0, c1, c2, c3, c4], _ => exact ⟨c0, c1, c2, c3, c4, rfl⟩

theorem open_agg5 {H : Type} {enc : TypeId × Value → H} {P : Program} {W : World} {base : Nat} {t : TypeId} {f0 f1 f2 f3 f4 : Field} {v : Value} {d : DataW H} {p : List MemPlace}
    (hs : P.underlying t = some (.struct #[f0, f1, f2, f3, f4])) (hone : oneCellFields P #[f0, f1, f2, f3, f4] = true) (hC : P.cellsOf t = 5)
    (hv : Value.okWide P W .any base t v) (h : DataW.Trod enc P W 0 (fun _ => true) true t v d p) :
    ∃ (v0 v1 v2 v3 v4 : Value) (y0 y1 y2 y3 y4 : DataW H × List MemPlace) (n : Nat), v = .agg #[v0, v1, v2, v3, v4] ∧ d = .agg [y0.1, y1.1, y2.1, y3.1, y4.1] ∧
      DataW.trod enc P W 0 (fun _ => true) true n f0.type [v0] = some y0 ∧ DataW.trod enc P W 0 (fun _ => true) true n f1.type [v1] = some y1 ∧ DataW.trod enc P W 0 (fun _ => true) true n f2.type [v2] = some y2 ∧ DataW.trod enc P W 0 (fun _ => true) true n f3.type [v3] = some y3 ∧ DataW.trod enc P W 0 (fun _ => true) true n f4.type [v4] = some y4 := by
  obtain ⟨cs, rfl, hsz⟩ := okWide_struct hs hv
  obtain ⟨c0, c1, c2, c3, c4, rfl⟩ := array5 (hsz.trans hC)
  obtain ⟨fuel, hf⟩ := h
  obtain ⟨xs, n, _, hD, hl, hlen, hx⟩ := DataW.trod_struct hs hf
  simp only [Prod.mk.injEq] at hD
  obtain ⟨o0, k0⟩ := hone_of hone 0 f0 rfl
  obtain ⟨o1, k1⟩ := hone_of hone 1 f1 rfl
  obtain ⟨o2, k2⟩ := hone_of hone 2 f2 rfl
  obtain ⟨o3, k3⟩ := hone_of hone 3 f3 rfl
  obtain ⟨o4, k4⟩ := hone_of hone 4 f4 rfl
  match xs, hlen with
  | [y0, y1, y2, y3, y4], _ =>
    have h0 := hx 0 f0 rfl
    have h1 := hx 1 f1 rfl
    have h2 := hx 2 f2 rfl
    have h3 := hx 3 f3 rfl
    have h4 := hx 4 f4 rfl
    exact ⟨c0, c1, c2, c3, c4, y0, y1, y2, y3, y4, n, rfl, by simpa using hD.1, by simpa [Value.cells, o0, k0] using h0, by simpa [Value.cells, o1, k1] using h1, by simpa [Value.cells, o2, k2] using h2, by simpa [Value.cells, o3, k3] using h3, by simpa [Value.cells, o4, k4] using h4⟩

/-- The closed facts on the types that a heap is made of. -/
structure HeapTypes (P : Program) (ht zst zt bst bt ist it lst lt : TypeId) : Prop where
  heap : ∃ f0 f1 f2 f3 f4 : Field, P.underlying ht = some (.struct #[f0, f1, f2, f3, f4]) ∧ oneCellFields P #[f0, f1, f2, f3, f4] = true ∧ f0.type = zst ∧ f1.type = ist ∧ f2.type = it ∧ f3.type = lst ∧ f4.type = bst
  hc : P.cellsOf ht = 5
  zones : P.underlying zst = some (.slice zt)
  zone : ∃ f0 f1 f2 f3 : Field, P.underlying zt = some (.struct #[f0, f1, f2, f3]) ∧ oneCellFields P #[f0, f1, f2, f3] = true ∧ f0.type = it ∧ f1.type = it ∧ f2.type = bst ∧ f3.type = ist
  zcell : P.cellsOf zt = 4
  zbytes : P.bytesOf zt = 64
  blocks : P.underlying bst = some (.slice bt)
  block : ∃ f0 f1 f2 : Field, P.underlying bt = some (.struct #[f0, f1, f2]) ∧ oneCellFields P #[f0, f1, f2] = true ∧ f0.type = it ∧ f1.type = it ∧ f2.type = it
  bcell : P.cellsOf bt = 3
  bbytes : P.bytesOf bt = 24
  ints : P.underlying ist = some (.slice it)
  int : P.underlying it = some (.int .i64)
  icell : P.cellsOf it = 1
  ibytes : P.bytesOf it = 8
  lists : P.underlying lst = some (.slice lt)
  list : ∃ f0 f1 f2 f3 : Field, P.underlying lt = some (.struct #[f0, f1, f2, f3]) ∧ oneCellFields P #[f0, f1, f2, f3] = true ∧ f0.type = it ∧ f1.type = it ∧ f2.type = it ∧ f3.type = ist
  lcell : P.cellsOf lt = 4
  lbytes : P.bytesOf lt = 48

theorem open_heap_in {H : Type} {enc : TypeId × Value → H} {P : Program} {W : World} {ht zst zt bst bt ist it lst lt : TypeId} (T : HeapTypes P ht zst zt bst bt ist it lst lt) {n : Nat} {v0 v1 v2 v3 v4 : Value} {y0 y1 y2 y3 y4 : DataW H × List MemPlace}
    (h0 : DataW.trod enc P W 0 (fun _ => true) true n zst [v0] = some y0) (h1 : DataW.trod enc P W 0 (fun _ => true) true n ist [v1] = some y1) (h2 : DataW.trod enc P W 0 (fun _ => true) true n it [v2] = some y2) (h3 : DataW.trod enc P W 0 (fun _ => true) true n lst [v3] = some y3) (h4 : DataW.trod enc P W 0 (fun _ => true) true n bst [v4] = some y4)
    (s0 : Sized P zst y0.1) (s1 : Sized P ist y1.1) (s3 : Sized P lst y3.1) (s4 : Sized P bst y4.1) :
    ∃ x : Hx, v0 = .slice x.zo x.zn x.zc ∧ v1 = .slice x.mo x.mn x.mc ∧ v2 = .int .i64 x.cpus ∧ v3 = .slice x.lo x.ln x.lc ∧ v4 = .slice x.vo x.vn x.vc ∧ IsHeap W x := by
  obtain ⟨g0, g1, g2, g3, a1, a2, a3, a4, a5, a6⟩ := T.zone
  obtain ⟨b0, b1, b2, c1, c2, c3, c4, c5⟩ := T.block
  obtain ⟨l0, l1, l2, l3, d1, d2, d3, d4, d5, d6⟩ := T.list
  obtain ⟨zo, zn, zc, zs, rfl, hZ, hZf⟩ := open_zones T.zones a1 a2 T.zcell T.zbytes a5 a6 T.blocks c1 T.bcell T.bbytes c2 (by rw [c3]; exact T.int) (by rw [c4]; exact T.int) (by rw [c5]; exact T.int) T.ints T.int T.icell T.ibytes (by rw [a3]; exact T.int) (by rw [a4]; exact T.int) h0 s0
  obtain ⟨mo, mn, mc, ms, rfl, hM⟩ := open_ints_in T.ints T.int T.icell T.ibytes h1 s1
  obtain ⟨cp, e2, _, hc⟩ := DataW.trod_int T.int h2
  simp only [List.cons.injEq, and_true] at e2
  subst e2
  obtain ⟨lo, ln, lc, ls, rfl, hL, hLf⟩ := open_lists T.lists d1 d2 T.lcell T.lbytes d6 T.ints T.int T.icell T.ibytes (by rw [d3]; exact T.int) (by rw [d4]; exact T.int) (by rw [d5]; exact T.int) h3 s3
  obtain ⟨vo, vn, vc, vs, rfl, hV⟩ := open_blks T.blocks c1 T.bcell T.bbytes c2 (by rw [c3]; exact T.int) (by rw [c4]; exact T.int) (by rw [c5]; exact T.int) h4 s4
  exact ⟨⟨zs, zo, zn, zc, ms, mo, mn, mc, cp, ls, lo, ln, lc, vs, vo, vn, vc⟩, rfl, rfl, rfl, rfl, rfl, ⟨⟨hZ, ⟨hM.len, by have := hM.reach; have := hM.le; show mn * 8 ≤ _; omega, hM.at_⟩, hL, ⟨hV.len, by have := hV.reach; have := hV.le; show vn * 24 ≤ _; omega, hV.at_⟩⟩, hZf, hLf, hV.wf, hc⟩⟩

theorem open_heap_arg {H : Type} {enc : TypeId × Value → H} {P : Program} {W : World} {base : Nat} {ht zst zt bst bt ist it lst lt : TypeId} (T : HeapTypes P ht zst zt bst bt ist it lst lt) {v : Value} {d : DataW H} {p : List MemPlace}
    (hv : Value.okWide P W .any base ht v) (h : DataW.Trod enc P W 0 (fun _ => true) true ht v d p) (hs : Sized P ht d) :
    ∃ x : Hx, v = .agg #[.slice x.zo x.zn x.zc, .slice x.mo x.mn x.mc, .int .i64 x.cpus, .slice x.lo x.ln x.lc, .slice x.vo x.vn x.vc] ∧ IsHeap W x := by
  obtain ⟨f0, f1, f2, f3, f4, a1, a2, a3, a4, a5, a6, a7⟩ := T.heap
  obtain ⟨v0, v1, v2, v3, v4, y0, y1, y2, y3, y4, n, rfl, rfl, h0, h1, h2, h3, h4⟩ := open_agg5 a1 a2 T.hc hv h
  have s0 : Sized P zst y0.1 := sized_field hs a1 (i := 0) (by simp [a3]) rfl
  have s1 : Sized P ist y1.1 := sized_field hs a1 (i := 1) (by simp [a4]) rfl
  have s3 : Sized P lst y3.1 := sized_field hs a1 (i := 3) (by simp [a6]) rfl
  have s4 : Sized P bst y4.1 := sized_field hs a1 (i := 4) (by simp [a7]) rfl
  rw [a3] at h0
  rw [a4] at h1
  rw [a5] at h2
  rw [a6] at h3
  rw [a7] at h4
  obtain ⟨x, rfl, rfl, rfl, rfl, rfl, hx⟩ := open_heap_in T h0 h1 h2 h3 h4 s0 s1 s3 s4
  exact ⟨x, rfl, hx⟩

end Go.Proofs.Ytbjlbmofdnkmiaa.Kit
