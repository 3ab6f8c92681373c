/-
  OWN TEXTS, bundled: AppK, BDel, Bu2, ZcJoin, ZcGroup, BCon, AppK2, BIns, BIns2.
-/
import Derived.Test.YtffhpjjioefaeaeBuddyGivesPart2
import Derived.Deep.RegionLaw
import Derived.OwnWalk
import Derived.Lib.AppendZerosOnto
import Derived.Lib.AppendZeros
import Derived.Lib.Overlaps
import Derived.Laws.Externs

/-
  OWN TEXT. Rows of blocks of k cells that a call owns: append, copy, clear as steps; over whatever program.
-/
namespace Go.Proofs.Ytffhpjjioefaeae.Kit
open Go Go.RowKit

/-- A row: a block of 'cap' elements of 'size' cells each. -/
structure Row (w : World) (e : TypeId) (size g cap : Nat) (cur : List Value) : Prop where
  h : w.heap[g]? = some (.cells cur.toArray e (0, 0))
  len : cur.length = cap * size
  m : cap ≤ maxLen

theorem Row.lt {w : World} {e : TypeId} {size g cap : Nat} {cur : List Value} (h : Row w e size g cap cur) : g < w.heap.size := (Array.getElem?_eq_some_iff.1 h.h).1
theorem Row.but {w w' : World} {e : TypeId} {size g cap c : Nat} {cur : List Value} (h : Row w e size g cap cur) (hb : But c w w') (hne : g ≠ c) : Row w' e size g cap cur :=
  ⟨(hb.block g h.lt hne).trans h.h, h.len, h.m⟩
theorem Row.below {w w' : World} {e : TypeId} {size g cap : Nat} {cur : List Value} (h : Row w e size g cap cur) (hb : Below w.heap.size w w') : Row w' e size g cap cur :=
  ⟨(hb.block g h.lt).trans h.h, h.len, h.m⟩
theorem Row.cell {w : World} {e : TypeId} {size g cap : Nat} {cur : List Value} (h : Row w e size g cap cur) (j : Nat) : w.cell? ⟨g, j, none⟩ = cur[j]? := by
  simp [World.cell?, h.h]
theorem Row.fz {w : World} {e : TypeId} {size g cap : Nat} {cur : List Value} (h : Row w e size g cap cur) (j : Nat) : w.frozen? ⟨g, j, none⟩ = false := by
  simp [World.frozen?, h.h]
theorem add_at (g o j : Nat) : (⟨g, o, none⟩ : Addr).add j = ⟨g, o + j, none⟩ := by unfold Addr.add; split <;> simp_all

theorem Row.of {w : World} {base : Nat} {e : TypeId} {size g n cap : Nat} {xs : List Value} (h : w.ownsRow base e size (.slice (some ⟨g, 0, none⟩) n cap) n xs) :
    base ≤ g ∧ n ≤ cap ∧ ∃ cur, Row w e size g cap cur ∧ cur.take (n * size) = xs := by
  rcases h.2 with ⟨h', _⟩ | ⟨g', cap', cur, h', hb, hg, hn, hm, hs, htake⟩
  · cases h'
  · simp only [Value.slice.injEq, Option.some.injEq, Addr.mk.injEq, and_true, true_and] at h'
    obtain ⟨rfl, rfl⟩ := h'
    exact ⟨hb, hn, cur.toList, ⟨by simpa using hg, by simpa using hs, hm⟩, htake⟩
theorem Row.owns {w : World} {base : Nat} {e : TypeId} {size g n cap : Nat} {cur xs : List Value} (h : Row w e size g cap cur) (hb : base ≤ g) (hn : n ≤ cap) (ht : cur.take (n * size) = xs) :
    w.ownsRow base e size (.slice (some ⟨g, 0, none⟩) n cap) n xs := by
  refine ⟨?_, .inr ⟨g, cap, cur.toArray, rfl, hb, h.h, hn, h.m, by simpa using h.len, by simpa using ht⟩⟩
  rw [← ht, List.length_take, h.len, Nat.min_eq_left (Nat.mul_le_mul_right _ hn)]

theorem splice_take {α : Type} {L cs : List α} {off n : Nat} (h : n ≤ off) (hl : off ≤ L.length) : (splice L off cs).take n = L.take n := by
  unfold splice
  rw [List.take_append_of_le_length (by simp; omega), List.take_take, Nat.min_eq_left h]

/-- append within the capacity, a step of a region that draws. -/
theorem step_append_fits {P : Program} {ops : Array Oper} {o : Oper} {a : Act} {w : World} {K : Act → World → Prop} {Q : Exit → Act → World → Prop} {E : Prop}
    (hg : o.guard = none) (s x : Operand) (t : TypeId) (hop : o.op = Op.call { callee := Callee.builtin Builtin.append, args := #[s, x], argTypes := #[t, t] })
    (e : TypeId) (i : TypeInfo) (size : Nat) (h1 : P.underlying t = some (.slice e)) (h2 : P.info? e = some i) (h4 : i.size = size)
    (base g n cap : Nat) (xs : List Value) (hs : a.eval s = .slice (some ⟨g, 0, none⟩) n cap) (hown : w.ownsRow base e size (.slice (some ⟨g, 0, none⟩) n cap) n xs)
    (xo : Option Addr) (m c : Nat) (news : List Value) (hx : a.eval x = .slice xo m c) (hn : news.length = m * size) (hxo : ∃ ad, xo = some ad ∧ ∀ j u, news[j]? = some u → w.cell? (ad.add j) = some u) (h1c : ∀ u ∈ news, u.oneCell' = true)
    (N : Nat) (hN : n + m = N) (hroom : N ≤ cap)
    (hK : ∀ w', w'.ownsRow base e size (.slice (some ⟨g, 0, none⟩) N cap) N (xs ++ news) → But g w w' → K (a.put o.dst (.slice (some ⟨g, 0, none⟩) N cap)) w') :
    if Region.wanted o (yielded ops a.tmps) = true then Oper.wp P o a w K Q else E := by
  have hw : Region.wanted o (yielded ops a.tmps) = true := by simp [Region.wanted, hg]
  rw [if_pos hw]
  subst hN
  obtain ⟨ad, rfl, hc⟩ := hxo
  obtain ⟨w', hrun, r1, r2⟩ := run_append_fits (P := P) w base t o.type e i size h1 h2 h4 g n cap xs hown ad m c news hn hc h1c hroom
  unfold Oper.wp
  simp [execOp, hop, resolve, invoke, builtin, hs, hx, hrun, Result.andThen]
  exact hK w' r1 ⟨r2.os, r2.tape, r2.output, r2.size, fun k hk hne => r2.block k hk (by intro g; exact hne (by simpa using g))⟩

/-- copy, a step of a region that draws. -/
theorem step_copy_k {P : Program} {ops : Array Oper} {o : Oper} {a : Act} {w : World} {K : Act → World → Prop} {Q : Exit → Act → World → Prop} {E : Prop} (hgd : o.guard = none) (d s : Operand) (dT sT : TypeId)
    (ho : o.op = .call { callee := .builtin .copy, args := #[d, s], argTypes := #[dT, sT] }) (elem : TypeId) (k : Nat) (hu : P.underlying dT = some (.slice elem)) (hsz : (P.info? elem).map (·.size) = some k)
    (dp sp : Option Addr) (dLen dCap sLen sCap : Nat) (hd : a.eval d = .slice dp dLen dCap) (hs : a.eval s = .slice sp sLen sCap)
    (g off : Nat) (cur : List Value) (t : TypeId) (hg : w.heap[g]? = some (.cells cur.toArray t (0, 0))) (cs : List Value) (m : Nat) (hm : Nat.min sLen dLen = m) (hn : cs.length = m * k)
    (hpos : 0 < m → dp = some ⟨g, off, none⟩ ∧ ∃ ad, sp = some ad ∧ ∀ j v, cs[j]? = some v → w.cell? (ad.add j) = some v)
    (hfit : off + cs.length ≤ cur.length) (h1 : ∀ v ∈ cs, v.oneCell' = true)
    (h : ∀ w', Hid (w'.heap[g]? = some (.cells (splice cur off cs).toArray t (0, 0))) → But g w w' → K (a.put o.dst (goInt m)) w') :
    if Region.wanted o (yielded ops a.tmps) = true then Oper.wp P o a w K Q else E := by
  have hw : Region.wanted o (yielded ops a.tmps) = true := by simp [Region.wanted, hgd]
  rw [if_pos hw]
  by_cases h0 : m = 0
  · subst h0
    obtain rfl : cs = [] := List.eq_nil_of_length_eq_zero (by simpa using hn)
    have hrun := run_copy_none_k (P := P) w dT sT o.type elem k dp sp dLen dCap sLen sCap hu hsz hm
    unfold Oper.wp
    simp [execOp, ho, resolve, invoke, builtin, hd, hs, hrun, Result.andThen]
    exact h w (show _ = _ by simpa [splice] using hg) (But.refl _ _)
  · obtain ⟨rfl, ad, rfl, hsrc⟩ := hpos (by omega)
    have hrun := run_copy_row_k (P := P) w dT sT o.type elem k g off dLen dCap ad sLen sCap cur.toArray t cs hu hsz hg (by rw [hm]; exact hn) hsrc (by simpa using hfit) h1
    rw [hm] at hrun
    unfold Oper.wp
    simp [execOp, ho, resolve, invoke, builtin, hd, hs, hrun, Result.andThen]
    exact h _ (show _ = _ by simpa [splice] using setRow_heap w g _ _ t _ hg) (by simpa using but_setRow w g _)

/-- clear of n elements that lie in a row. -/
theorem wpList_clear_k {P : Program} {w : World} {ops : Array Oper} {rest : List Oper} {o : Oper} {a : Act} {Q : Exit → Act → World → Prop} (hgd : o.guard = none) (s : Operand) (t : TypeId)
    (ho : o.op = .call { callee := .builtin .clear, args := #[s], argTypes := #[t] }) (e : TypeId) (z : Value) (k : Nat) (hu : P.underlying t = some (.slice e)) (hv : ∀ w, (zeroValue e).run P w = .ok z w) (hz : z.cells.size = k) (h1 : ∀ v ∈ z.cells, v.oneCell' = true)
    (sp : Option Addr) (n c : Nat) (hs : a.eval s = .slice sp n c) (g off : Nat) (cur : List Value) (hg : w.heap[g]? = some (.cells cur.toArray e (0, 0))) (hpos : 0 < n → sp = some ⟨g, off, none⟩) (hfit : off + n * k ≤ cur.length)
    (h : ∀ (w' : World) (cur' : List Value), Hid (w'.heap[g]? = some (.cells cur'.toArray e (0, 0)) ∧ cur'.length = cur.length ∧ cur'.take off = cur.take off) → But g w w' → wpList P ops Q rest (a.put o.dst (.tuple #[])) w') :
    wpList P ops Q (o :: rest) a w := by
  by_cases h0 : n = 0
  · subst h0
    refine wpList_plain hgd fun K hK => ?_
    have hrun : (Builtin.clear_ #[t] o.type #[.slice sp 0 c]).run P w = .ok (.tuple #[]) w := by
      cases sp <;> simp [Builtin.clear_, run_underlying hu]
    unfold Oper.wp
    simp [execOp, ho, resolve, invoke, builtin, hs, hrun, Result.andThen]
    exact hK _ _ (h w cur ⟨hg, rfl, rfl⟩ (But.refl _ _))
  · obtain rfl := hpos (by omega)
    refine wpList_plain hgd fun K hK => ?_
    obtain ⟨zs, hzs⟩ : ∃ zs, (Builtin.zeroCells z.cells n).toList = zs := ⟨_, rfl⟩
    have hzl : zs.length = n * k := by rw [← hzs, Array.length_toList, size_zeroCells, hz]
    have hz1 : ∀ v ∈ zs, v.oneCell' = true := by
      intro v hv'
      rw [← hzs] at hv'
      obtain ⟨j, hj, rfl⟩ := List.getElem_of_mem hv'
      have hk : 0 < z.cells.size := by
        rcases Nat.eq_zero_or_pos z.cells.size with g | g
        · rw [Array.length_toList, size_zeroCells, g] at hj; omega
        · exact g
      simp only [Array.getElem_toList, Builtin.zeroCells, Array.getElem_map, Array.getElem_range]
      rw [getElem!_pos z.cells _ (Nat.mod_lt _ hk)]
      exact h1 _ (Array.getElem_mem _)
    have hst := run_storeCells_at P g off e zs 0 cur.toArray w hg (by simp; omega) hz1
    have hrun : (Builtin.clear_ #[t] o.type #[.slice (some ⟨g, off, none⟩) n c]).run P w = .ok (.tuple #[]) (w.setRow g (cur.take off ++ zs ++ cur.drop (off + zs.length)).toArray) := by
      obtain ⟨m, rfl⟩ : ∃ m, n = m + 1 := ⟨n - 1, by omega⟩
      simp only [Nat.add_zero] at hst
      simp [Builtin.clear_, run_underlying hu, hv, hzs, hst]
    unfold Oper.wp
    simp [execOp, ho, resolve, invoke, builtin, hs, hrun, Result.andThen]
    refine hK _ _ (h _ (cur.take off ++ zs ++ cur.drop (off + zs.length)) ⟨?_, ?_, ?_⟩ ?_)
    · simpa using setRow_heap w g _ _ e _ hg
    · simp; omega
    · rw [List.append_assoc, List.take_append_of_le_length (by simp; omega), List.take_take, Nat.min_self]
    · simpa using but_setRow w g _

end Go.Proofs.Ytffhpjjioefaeae.Kit

/-
  OWN TEXT. Contract of slices.Delete at one block.
-/
namespace Go.Proofs.Ytffhpjjioefaeae
open Go Go.RowKit Go.Proofs.Ytffhpjjioefaeae.Kit

theorem zero_block : ∀ w, (zeroValue 39).run Try.prog w = .ok (.agg #[.int .i64 0, .int .i64 0, .int .i64 0]) w := fun w => by
  have h := info_block
  cases hq : Try.prog.info? 39 with
  | none => simp [hq] at h
  | some i =>
    simp [hq] at h
    simp [zeroValue, typeInfo, hq, h.1]

theorem zero_one : ∀ v ∈ (Value.agg #[.int .i64 0, .int .i64 0, .int .i64 0]).cells, v.oneCell' = true := by
  intro v hv
  have h : v ∈ (#[.int .i64 0, .int .i64 0, .int .i64 0] : Array Value) := hv
  simp at h
  subst h
  rfl

theorem bvals_take (l : List Bk) (i : Nat) : (bvals l).take (i * 3) = bvals (l.take i) := by
  induction l generalizing i with
  | nil => simp [bvals]
  | cons b l ih =>
    cases i with
    | zero => simp [bvals]
    | succ i => rw [Nat.succ_mul]; simp only [bvals, List.take_succ_cons, ih]
theorem bvals_drop (l : List Bk) (i : Nat) : (bvals l).drop (i * 3) = bvals (l.drop i) := by
  induction l generalizing i with
  | nil => simp [bvals]
  | cons b l ih =>
    cases i with
    | zero => simp [bvals]
    | succ i => rw [Nat.succ_mul]; simp only [bvals, List.drop_succ_cons, ih]
theorem take_cut {L X : List Value} {n m : Nat} (h : L.take n = X) (hm : m ≤ n) : L.take m = X.take m := by rw [← h, List.take_take, Nat.min_eq_left hm]

set_option maxHeartbeats 2000000 in
theorem bDel_any (w : World) (base g N cap i : Nat) (l : List Bk) (hi : i ≤ N) (hn : N ≤ 300) (own : w.ownsRow base 39 3 (.slice (some ⟨g, 0, none⟩) (N + 1) cap) (N + 1) (bvals l)) :
    Calls Try.prog 51 #[.slice (some ⟨g, 0, none⟩) (N + 1) cap, .int .i64 i, .int .i64 ((i : Int) + 1)] w fun e w' => e = .returned (.slice (some ⟨g, 0, none⟩) N cap) ∧
      w'.ownsRow base 39 3 (.slice (some ⟨g, 0, none⟩) N cap) N (bvals (l.eraseIdx i)) ∧ But g w w' := by
  obtain ⟨i1, hj, hy0, hy1, hy2⟩ := info_parts info_block
  have hll := bowns_len own
  obtain ⟨hbg, hnc, cur, R, hcur⟩ := Row.of own
  have hm := R.m
  unfold maxLen at hm
  have own1 : w.drew.ownsRow base 39 3 (.slice (some ⟨g, 0, none⟩) i cap) i (bvals (l.take i)) :=
    (R.below (Below.refl _ _).drew).owns hbg (by omega) (by rw [take_cut hcur (by omega), bvals_take])
  obtain ⟨news, hnews⟩ : ∃ news, news = bvals (l.drop (i + 1)) := ⟨_, rfl⟩
  have hnl : news.length = (N - i) * 3 := by rw [hnews, length_bvals, List.length_drop, hll]; omega
  have hn1 : ∀ u ∈ news, u.oneCell' = true := by rw [hnews]; exact bvals_oneCell _
  have hcell : ∀ j u, news[j]? = some u → w.drew.cell? ((⟨g, (i + 1) * 3, none⟩ : Addr).add j) = some u := by
    intro j u hu
    rw [add_at, (R.below (Below.refl _ _).drew).cell]
    rw [hnews, ← bvals_drop, List.getElem?_drop] at hu
    rw [← hcur, List.getElem?_take] at hu
    split at hu
    · exact hu
    · cases hu
  have HE : Hid (bvals (l.take i) ++ news = bvals (l.eraseIdx i)) := by
    show _ = _
    rw [hnews, ← bvals_append, List.eraseIdx_eq_take_drop_succ]
  have hsum : i + (N - i) = N := by omega
  have Hcell : Hid _ := hcell
  have Hnl : Hid _ := hnl
  clear hnews hcur own hcell hnl
  have h1 : (i : Int) + 1 ≤ N + 1 := by omega
  have h2 : i ≤ N + 1 := by omega
  have h3 : ((i : Int) == (i : Int) + 1) = false := by simp; omega
  have h4 : ((i : Int) + 1).toNat = i + 1 := by omega
  have h5 : i ≤ cap := by omega
  have h6 : ¬ (cap = N) := by omega
  have h7 : N + 1 - N = 1 := by omega
  have h8 : (i : Int) ≤ (cap : Int) := by omega
  have h9 : (i : Int) + 1 ≤ (cap : Int) := by omega
  have h10 : (i : Int) ≤ (N : Int) + 1 := by omega
  have h11 : (N : Int) ≤ (N : Int) + 1 := by omega
  have h12 : (N : Int) + 1 ≤ (cap : Int) := by omega
  have h13 : ((N : Int) + 1).toNat = N + 1 := by omega
  have h14 : ¬ (cap = i) := by omega
  have h15 : (0 : Int) ≤ (i : Int) + 1 := by omega
  by_cases hc' : cap = i + 1
  · have hc : (cap = i + 1) = True := eq_true hc'
    have HC : Hid (cap = i + 1) := hc'
    clear hc'
    go_enter Try.func51, Try.ntmps51
    go_wp2
    go_region_law (refine step_append_fits rfl (.tmp 22) (.tmp 25) 22 rfl 39 i1 3 Try.underlying22 hj hy1 base g i cap (bvals (l.take i)) (by simp [Act.eval, Act.put]) own1 (some ⟨g, 0, none⟩) (N - i) (cap - (i + 1)) news (by simp [Act.eval, Act.put]) Hnl.out ⟨_, rfl, fun j u hu => by have := Hnl.out; have hc' := HC.out; have h0 : news = [] := List.eq_nil_of_length_eq_zero (by omega); rw [h0] at hu; cases hu⟩ hn1 N hsum (by omega) ?_; intro w1 ho1 hb1)
    all_goals
      obtain ⟨_, _, cur1, R1, hcur1⟩ := Row.of ho1
      have hl1 := R1.len
      clear own1 Hcell Hnl hn1 ho1 R
      go_wp2_with (refine wpList_clear_k rfl (.tmp 31) 22 rfl 39 _ 3 Try.underlying22 zero_block rfl zero_one _ _ _ rfl g (N * 3) cur1 R1.h (fun _ => rfl) (by omega) ?_; intro w2 cur2 hg2 hb2)
      go_ret
      obtain ⟨g1, g2, g3⟩ := hg2.out
      have R2 : Row w2 39 3 g cap cur2 := ⟨g1, by rw [g2]; exact hl1, R1.m⟩
      exact ⟨rfl, R2.owns hbg (by omega) (by rw [g3, hcur1, HE.out]), ((But.of_below (Below.refl _ _).drew).trans hb1).trans hb2⟩
  · go_enter Try.func51, Try.ntmps51
    go_wp2
    go_region_law (refine step_append_fits rfl (.tmp 22) (.tmp 25) 22 rfl 39 i1 3 Try.underlying22 hj hy1 base g i cap (bvals (l.take i)) (by simp [Act.eval, Act.put]) own1 (some ⟨g, (i + 1) * 3, none⟩) (N - i) (cap - (i + 1)) news (by simp [Act.eval, Act.put]) Hnl.out ⟨_, rfl, Hcell.out⟩ hn1 N hsum (by omega) ?_; intro w1 ho1 hb1)
    all_goals
      obtain ⟨_, _, cur1, R1, hcur1⟩ := Row.of ho1
      have hl1 := R1.len
      clear own1 Hcell Hnl hn1 ho1 R
      go_wp2_with (refine wpList_clear_k rfl (.tmp 31) 22 rfl 39 _ 3 Try.underlying22 zero_block rfl zero_one _ _ _ rfl g (N * 3) cur1 R1.h (fun _ => rfl) (by omega) ?_; intro w2 cur2 hg2 hb2)
      go_ret
      obtain ⟨g1, g2, g3⟩ := hg2.out
      have R2 : Row w2 39 3 g cap cur2 := ⟨g1, by rw [g2]; exact hl1, R1.m⟩
      exact ⟨rfl, R2.owns hbg (by omega) (by rw [g3, hcur1, HE.out]), ((But.of_below (Below.refl _ _).drew).trans hb1).trans hb2⟩

end Go.Proofs.Ytffhpjjioefaeae

/-
  OWN TEXT. Worlds that differ in two blocks alone; a zone behind a pointer whose rows the call owns; over whatever program. A list without one of its blocks.
-/
namespace Go.Proofs.Ytffhpjjioefaeae.Kit
open Go Go.RowKit

/-- Of what was there only the blocks g and z may differ. -/
structure Bu2 (g z : Nat) (w w' : World) : Prop where
  os : w'.os = w.os
  tape : w'.tape = w.tape
  output : w'.output = w.output
  size : w.heap.size ≤ w'.heap.size
  block : ∀ k, k < w.heap.size → k ≠ g → k ≠ z → w'.heap[k]? = w.heap[k]?
theorem Bu2.refl (g z : Nat) (w : World) : Bu2 g z w w := ⟨rfl, rfl, rfl, Nat.le_refl _, fun _ _ _ _ => rfl⟩
theorem Bu2.trans {g z : Nat} {w w' w'' : World} (h : Bu2 g z w w') (k : Bu2 g z w' w'') : Bu2 g z w w'' :=
  ⟨k.os.trans h.os, k.tape.trans h.tape, k.output.trans h.output, Nat.le_trans h.size k.size, fun j hj h1 h2 => (k.block j (Nat.lt_of_lt_of_le hj h.size) h1 h2).trans (h.block j hj h1 h2)⟩
theorem Bu2.of_but_g {g z : Nat} {w w' : World} (h : But g w w') : Bu2 g z w w' := ⟨h.os, h.tape, h.output, h.size, fun k hk h1 _ => h.block k hk h1⟩
theorem Bu2.of_but_z {g z : Nat} {w w' : World} (h : But z w w') : Bu2 g z w w' := ⟨h.os, h.tape, h.output, h.size, fun k hk _ h1 => h.block k hk h1⟩
theorem Bu2.of_below {g z : Nat} {w w' : World} (h : Below w.heap.size w w') : Bu2 g z w w' := ⟨h.os, h.tape, h.output, h.size, fun k hk _ _ => h.block k hk⟩
theorem Bu2.below {g z B : Nat} {w w' : World} (h : Bu2 g z w w') (hg : B ≤ g) (hz : B ≤ z) (hB : B ≤ w.heap.size) : Below B w w' := ⟨h.os, h.tape, h.output, h.size, fun k hk => h.block k (by omega) (by omega) (by omega)⟩
theorem Bu2.cell {g z c o : Nat} {v : Value} {w w' : World} (h : Bu2 g z w w') (hc : w.cell? ⟨c, o, none⟩ = some v) (h1 : c ≠ g) (h2 : c ≠ z) : w'.cell? ⟨c, o, none⟩ = some v :=
  (World.cell?_of_block (a := ⟨c, o, none⟩) (h.block c (World.block_lt_of_cell? w _ hc) h1 h2)).trans hc
theorem Bu2.zbox {g z b : Nat} {w w' : World} {x y u v : Value} (h : Bu2 g z w w') (hz : ZBox w b x y u v) (h1 : b ≠ g) (h2 : b ≠ z) : ZBox w' b x y u v := by
  have hb := h.block b hz.lt h1 h2
  exact ⟨h.cell hz.c0 h1 h2, h.cell hz.c1 h1 h2, h.cell hz.c2 h1 h2, h.cell hz.c3 h1 h2, (World.frozen?_of_block (a := ⟨b, 0, none⟩) hb).trans hz.z0, (World.frozen?_of_block (a := ⟨b, 1, none⟩) hb).trans hz.z1, (World.frozen?_of_block (a := ⟨b, 2, none⟩) hb).trans hz.z2, (World.frozen?_of_block (a := ⟨b, 3, none⟩) hb).trans hz.z3⟩
theorem Bu2.res {g z b : Nat} {w w' : World} (h : Bu2 g z w w') (hz : Res4 w b) (h1 : b ≠ g) (h2 : b ≠ z) : Res4 w' b := by
  obtain ⟨⟨v0, e0⟩, ⟨v1, e1⟩, ⟨v2, e2⟩, ⟨v3, e3⟩, z0, z1, z2, z3⟩ := hz
  exact (h.zbox ⟨e0, e1, e2, e3, z0, z1, z2, z3⟩ h1 h2).res
theorem Bu2.owns {g z b : Nat} {w w' : World} {base : Nat} {e : TypeId} {size n cap : Nat} {xs : List Value} (h : Bu2 g z w w') (ho : w.ownsRow base e size (.slice (some ⟨b, 0, none⟩) n cap) n xs) (h1 : b ≠ g) (h2 : b ≠ z) : w'.ownsRow base e size (.slice (some ⟨b, 0, none⟩) n cap) n xs := by
  obtain ⟨hb, hn, cur, R, ht⟩ := Row.of ho
  exact Row.owns ⟨(h.block b R.lt h1 h2).trans R.h, R.len, R.m⟩ hb hn ht
/-- The owned row may become another, new one. -/
theorem Bu2.moved {g g' z : Nat} {w w' w'' : World} (h : Bu2 g z w w') (k : Bu2 g' z w' w'') (hg : g' = g ∨ w.heap.size ≤ g') : Bu2 g z w w'' := by
  rcases hg with rfl | hg
  · exact h.trans k
  · exact ⟨k.os.trans h.os, k.tape.trans h.tape, k.output.trans h.output, Nat.le_trans h.size k.size, fun j hj h1 h2 => (k.block j (Nat.lt_of_lt_of_le hj h.size) (by omega) h2).trans (h.block j hj h1 h2)⟩

theorem own_but {w w' : World} {base : Nat} {e : TypeId} {g n cap size c : Nat} {xs : List Value} (h : w.ownsRow base e size (.slice (some ⟨g, 0, none⟩) n cap) n xs) (hb : But c w w') (hne : g ≠ c) :
    w'.ownsRow base e size (.slice (some ⟨g, 0, none⟩) n cap) n xs := by
  obtain ⟨h1, h2, cur, R, ht⟩ := Row.of h
  exact (R.but hb hne).owns h1 h2 ht

/-- Blocks that rise. -/
def Inc (l : List Bk) : Prop := l.Pairwise fun p q => p.a < q.a
theorem Inc.drop {l : List Bk} (h : Inc l) (a o : Int) : Inc (dropB l a o) := List.Pairwise.filter _ h
theorem inc_of_free {f t lo : Int} {pv : Option Bk} {l : List Bk} (h : FreeOk f t lo pv l) : Inc l := by
  suffices H : ∀ (l : List Bk) (lo : Int) (pv : Option Bk), FreeOk f t lo pv l → (∀ b ∈ l, lo ≤ b.a) ∧ Inc l from (H l lo pv h).2
  intro l
  induction l with
  | nil => intro lo pv _; exact ⟨fun b hb => by simp at hb, List.Pairwise.nil⟩
  | cons b l ih =>
    intro lo pv h
    obtain ⟨_, _, h3, _, h5⟩ := h
    obtain ⟨i1, i2⟩ := ih _ _ h5
    have hp := pw_pos b.o
    refine ⟨fun x hx => ?_, List.Pairwise.cons (fun x hx => by have := i1 x hx; omega) i2⟩
    rcases List.mem_cons.1 hx with rfl | hx
    · exact h3
    · have := i1 x hx; omega

theorem drop_none {l : List Bk} {a o : Int} (h : ∀ b ∈ l, isB a o b = false) : dropB l a o = l := by
  unfold dropB
  rw [List.filter_eq_self]
  intro b hb
  rw [h b hb]; rfl
theorem erase_eq {l : List Bk} (hI : Inc l) {a o : Int} {i : Nat} (hi : i < l.length) (h : isB a o (l.getD i .zero) = true) : l.eraseIdx i = dropB l a o := by
  induction l generalizing i with
  | nil => simp at hi
  | cons b l ih =>
    have hI' := List.pairwise_cons.1 hI
    cases i with
    | zero =>
      have hb : isB a o b = true := by simpa using h
      have e : b.a = a := (of_decide_eq_true hb).1
      have : dropB (b :: l) a o = dropB l a o := by unfold dropB; rw [List.filter_cons]; simp [hb]
      rw [this, drop_none (fun x hx => decide_eq_false (fun g => by have := hI'.1 x hx; rw [e, g.1] at this; omega))]
      rfl
    | succ i =>
      have h' : isB a o (l.getD i .zero) = true := by simpa using h
      have hi' : i < l.length := by simpa using hi
      have e : (l.getD i .zero).a = a := (of_decide_eq_true h').1
      have hm : l.getD i .zero ∈ l := by rw [List.getD_eq_getElem?_getD, List.getElem?_eq_getElem hi']; exact List.getElem_mem _
      have hb : isB a o b = false := decide_eq_false (fun g => by have := hI'.1 _ hm; rw [e, g.1] at this; omega)
      have : dropB (b :: l) a o = b :: dropB l a o := by unfold dropB; rw [List.filter_cons]; simp [hb]
      rw [this, List.eraseIdx_cons_succ, ih hI'.2 hi' h']

theorem has_of {l : List Bk} {a o : Int} {i : Nat} (hi : i < l.length) (h : isB a o (l.getD i .zero) = true) : hasB l a o = true := by
  unfold hasB
  rw [List.any_eq_true]
  exact ⟨l[i], List.getElem_mem _, by rw [List.getD_eq_getElem?_getD, List.getElem?_eq_getElem hi] at h; exact h⟩
theorem has_none {l : List Bk} {a o : Int} (h : ∀ j, j < l.length → isB a o (l.getD j .zero) = false) : hasB l a o = false := by
  unfold hasB
  rw [List.any_eq_false]
  intro x hx
  obtain ⟨i, hi, rfl⟩ := List.getElem_of_mem hx
  have := h i hi
  rw [List.getD_eq_getElem?_getD, List.getElem?_eq_getElem hi] at this
  simp only [Option.getD_some] at this
  simp [this]
theorem drop_len {l : List Bk} (hI : Inc l) {a o : Int} {i : Nat} (hi : i < l.length) (h : isB a o (l.getD i .zero) = true) : (dropB l a o).length + 1 = l.length := by
  rw [← erase_eq hI hi h, List.length_eraseIdx_of_lt hi]; omega

end Go.Proofs.Ytffhpjjioefaeae.Kit

/-
  OWN TEXT. Contract of the code: buddy.join.
-/
namespace Go.Proofs.Ytffhpjjioefaeae
open Go Go.RowKit Go.Proofs.Ytffhpjjioefaeae.Kit

set_option maxHeartbeats 1000000 in
theorem joinF_any (W : World) (b1 b2 : Nat) (x o : Int) (ba bo bt : Int) (c1 : W.cell? ⟨b1, 0, none⟩ = some (.int .i64 x)) (c2 : W.cell? ⟨b2, 0, none⟩ = some (.int .i64 o)) :
    Calls Try.prog 50 (#[.agg #[.int .i64 ba, .int .i64 bo, .int .i64 bt]] ++ #[.pointer (some ⟨b1, 0, none⟩), .pointer (some ⟨b2, 0, none⟩)]) W fun e W' => e = .returned (.bool (isB x o ⟨ba, bo, bt⟩)) ∧ Below W.heap.size W W' := by
  have hb0 := below_box W (.cells #[.int .i64 ba, .int .i64 bo, .int .i64 bt] 39)
  have d1 := keep c1 hb0
  have d2 := keep c2 hb0
  clear c1 c2
  by_cases g1 : ba = x
  · have HF : Hid ((bo == o) = isB x o ⟨ba, bo, bt⟩) := by
      show _ = decide (_ ∧ _)
      rw [show (bo == o) = decide (bo = o) from rfl]
      simp [g1]
    have g1' : (ba == x) = true := by simpa using g1
    clear g1
    go_enter Try.func50, Try.ntmps50
    go_wp2
    go_ret
    exact ⟨ret_bool HF.out, hb0⟩
  · have HF : Hid (false = isB x o ⟨ba, bo, bt⟩) := by
      show _ = decide (_ ∧ _)
      simp [g1]
    have g1' : (ba == x) = false := by simpa using g1
    clear g1
    go_enter Try.func50, Try.ntmps50
    go_wp2
    go_ret
    exact ⟨ret_bool HF.out, hb0⟩

theorem joinF_call (args : Array Value) (W : World) : (callFunc 50 args).run Try.prog W = .ok (.enter 50 args) W := by kernel_rfl

/-- What the loop of join knows: the zone behind the pointer, its row; the order in its box. -/
structure JnI (w : World) (base zb g cap ob : Nat) (f t : Int) (tv : Value) (l : List Bk) (n : Nat) (O : Int) (W : World) : Prop where
  b : Bu2 g zb w W
  box : ZBox W zb (.int .i64 f) (.int .i64 t) (.slice (some ⟨g, 0, none⟩) n cap) tv
  own : W.ownsRow base 39 3 (.slice (some ⟨g, 0, none⟩) n cap) n (bvals l)
  ord : W.cell? ⟨ob, 0, none⟩ = some (.int .i64 O)
  fz : W.frozen? ⟨ob, 0, none⟩ = false
theorem JnI.step {w : World} {base zb g cap ob : Nat} {f t : Int} {tv : Value} {l : List Bk} {n : Nat} {O : Int} {W W' : World} (h : JnI w base zb g cap ob f t tv l n O W) (hb : Below W.heap.size W W') : JnI w base zb g cap ob f t tv l n O W' :=
  ⟨h.b.trans (.of_below hb), h.box.below hb, owns_below h.own hb (Nat.le_refl _), keep h.ord hb, (hb.frozen (p := ⟨ob, 0, none⟩) (World.block_lt_of_cell? W _ h.ord)).trans h.fz⟩
theorem JnI.del {w : World} {base zb g cap ob : Nat} {f t : Int} {tv : Value} {l m : List Bk} {n k : Nat} {O : Int} {W W' : World} (h : JnI w base zb g cap ob f t tv l n O W) (hb : But g W W') (own : W'.ownsRow base 39 3 (.slice (some ⟨g, 0, none⟩) k cap) k (bvals m)) (hgz : g ≠ zb) (hgo : ob ≠ g) (hzo : ob ≠ zb) :
    JnI w base zb g cap ob f t tv m k O (W'.setCell ⟨zb, 2, none⟩ (.slice (some ⟨g, 0, none⟩) k cap)) := by
  have hbt : But zb W' (W'.setCell ⟨zb, 2, none⟩ (.slice (some ⟨g, 0, none⟩) k cap)) := (But.refl _ _).setCell _
  refine ⟨(h.b.trans (.of_but_g hb)).trans (.of_but_z hbt), (h.box.but hb (Ne.symm hgz)).set2 _, own_but own hbt hgz, hbt.cell (hb.cell h.ord hgo) hzo, ?_⟩
  have h1 := World.block_lt_of_cell? W _ h.ord
  have h2 := hb.block ob h1 hgo
  have h3 := hbt.block ob (Nat.lt_of_lt_of_le h1 hb.size) hzo
  exact (World.frozen?_of_block (a := ⟨ob, 0, none⟩) (h3.trans h2)).trans h.fz
theorem JnI.inc {w : World} {base zb g cap ob : Nat} {f t : Int} {tv : Value} {l : List Bk} {n : Nat} {O : Int} {W : World} (h : JnI w base zb g cap ob f t tv l n O W) (hgo : ob ≠ g) (hzo : ob ≠ zb) (ho : w.heap.size ≤ ob) (P : Int) : JnI w base zb g cap ob f t tv l n P (W.setCell ⟨ob, 0, none⟩ (.int .i64 P)) := by
  have hbt : But ob W (W.setCell ⟨ob, 0, none⟩ (.int .i64 P)) := (But.refl _ _).setCell _
  refine ⟨⟨hbt.os.trans h.b.os, hbt.tape.trans h.b.tape, hbt.output.trans h.b.output, Nat.le_trans h.b.size hbt.size, fun k hk h1 h2 => (hbt.block k (Nat.lt_of_lt_of_le hk h.b.size) (by omega)).trans (h.b.block k hk h1 h2)⟩, h.box.but hbt (Ne.symm hzo), own_but h.own hbt (Ne.symm hgo), World.cell?_setCell_same _ _ _ h.ord, by simpa using h.fz⟩

set_option maxHeartbeats 4000000 in
theorem join_any (w : World) (base zb g n cap : Nat) (f t : Int) (tv : Value) (l : List Bk) (a o : Int) (hz : newOk f t)
    (Z : ZBox w zb (.int .i64 f) (.int .i64 t) (.slice (some ⟨g, 0, none⟩) n cap) tv) (own : w.ownsRow base 39 3 (.slice (some ⟨g, 0, none⟩) n cap) n (bvals l)) (hgz : g ≠ zb) (hn : n ≤ 256)
    (hI : Inc l) (hL : ∀ b ∈ l, blkIn f t b.a b.o) (hA : blkIn f t a o) (R : List Bk × Int × Int) (hR : backGo (4 - o).toNat l a o = R) :
    Calls Try.prog 43 #[.pointer (some ⟨zb, 0, none⟩), .int .i64 a, .int .i64 o] w fun e w' => (∃ n', e = .returned (.tuple #[.int .i64 R.2.1, .int .i64 R.2.2]) ∧ n' ≤ n ∧
      ZBox w' zb (.int .i64 f) (.int .i64 t) (.slice (some ⟨g, 0, none⟩) n' cap) tv ∧ w'.ownsRow base 39 3 (.slice (some ⟨g, 0, none⟩) n' cap) n' (bvals R.1) ∧ Bu2 g zb w w') ∧ blkIn f t R.2.1 R.2.2 := by
  obtain ⟨n1, n2, n3, n4, n5⟩ := hz
  have hzl := Z.lt
  have hgl : g < w.heap.size := (own.lt _ rfl).2
  have hb0 := below_box w (.cells #[.int .i64 o] 3)
  obtain ⟨W0, hW0⟩ : ∃ W0, w.alloc (.cells #[.int .i64 o] 3) = W0 := ⟨_, rfl⟩
  have J0 : JnI w base zb g cap w.heap.size f t tv l n o W0 := by
    rw [← hW0]
    exact ⟨.of_below hb0, Z.below hb0, owns_below own hb0 (Nat.le_refl _), by simp, by simp⟩
  have HR : Hid (backGo (4 - o).toNat l a o = R) := hR
  have HW0 : Hid _ := hW0
  have go1 : w.heap.size ≠ g := by omega
  have go2 : w.heap.size ≠ zb := by omega
  clear hW0 hb0 Z own hR
  go_enter Try.func43, Try.ntmps43
  go_wp2_with (rw [HW0.out])
  clear HW0
  go_loopw [1] (fun av W => ∃ (A O : Int) (l' : List Bk) (n' : Nat), av = .int .i64 A ∧ blkIn f t A O ∧ Hid (backGo (4 - O).toNat l' A O = R) ∧ Hid (Inc l') ∧ (∀ b ∈ l', blkIn f t b.a b.o) ∧ n' ≤ n ∧ JnI w base zb g cap w.heap.size f t tv l' n' O W) (fun _ W => (4 - intOf ((W.cell? ⟨w.heap.size, 0, none⟩).getD undef)).toNat)
  case atStart => exact ⟨a, o, l, n, rfl, hA, HR, hI, hL, Nat.le_refl _, J0⟩
  case round =>
    obtain ⟨A, O, l', n', rfl, hA', hG, hI', hL', hn', J⟩ := hrel
    clear J0 HR hI hL hA
    obtain ⟨⟨o0, o4⟩, a1, a2, a3⟩ := id hA'
    obtain ⟨AN, rfl⟩ : ∃ AN : Nat, A = AN := ⟨A.toNat, by omega⟩
    have x2 := J.box.c2
    have z2 := J.box.z2
    have xo := J.ord
    have fo := J.fz
    have hsr := J.b.size
    have HXO : Hid (wr.cell? ⟨w.heap.size, 0, none⟩ = some (.int .i64 O)) := J.ord
    by_cases hO : O < 4
    · obtain ⟨X, hX⟩ : ∃ X, besideA (AN : Int) O = X := ⟨_, rfl⟩
      have HC := beside_any wr AN O ⟨o0, o4⟩ hO (by omega) a3
      rw [hX] at HC
      have HX : Hid (besideA (AN : Int) O = X) := hX
      obtain ⟨m, hm⟩ : ∃ m : Nat, (4 - O).toNat = m + 1 := ⟨(4 - O).toNat - 1, by omega⟩
      have hm2 : (4 - (O + 1)).toNat = m := by omega
      have hG1 : Hid (backGo (m + 1) l' (AN : Int) O = R) := by have := hG.out; rw [hm] at this; exact this
      clear hX hG
      go_wp2_with fail
      go_at_call 49
      refine HC.mono ?_
      rintro e w' ⟨rfl, rfl⟩
      clear HC
      have hbx := below_box wr (.cells #[.int .i64 X] 3)
      have J1 := J.step hbx
      have q1 : (wr.alloc (.cells #[.int .i64 X] 3)).cell? ⟨wr.heap.size, 0, none⟩ = some (.int .i64 X) := by simp
      obtain ⟨W1, hW1⟩ : ∃ W1, wr.alloc (.cells #[.int .i64 X] 3) = W1 := ⟨_, rfl⟩
      rw [hW1] at J1 q1
      have HW1 : Hid _ := hW1
      have y2 := J1.box.c2
      have yo := J1.ord
      have hlen := bowns_len J1.own
      have hHold : HoldsB 50 #[.pointer (some ⟨wr.heap.size, 0, none⟩), .pointer (some ⟨w.heap.size, 0, none⟩)] l' (isB X O) W1 := fun i hi W hb => joinF_any W _ _ X O _ _ _ (keep q1 hb) (keep yo hb)
      have HIx := bIndex_any W1 50 #[.pointer (some ⟨wr.heap.size, 0, none⟩), .pointer (some ⟨w.heap.size, 0, none⟩)] (some ⟨g, 0, none⟩) n' cap l' (isB X O) (blks_own J1.own (by omega)) joinF_call hHold
      clear hHold hW1 hbx J x2 z2 xo fo
      go_wp2_with (first | (rw [HW1.out]) | fail)
      go_at_call 44
      refine HIx.mono ?_
      rintro e W2 ⟨hf, hb2⟩
      have J2 := J1.step hb2
      have q2 := keep q1 hb2
      clear HIx J1 q1 y2 yo hb2 HW1
      have y2 := J2.box.c2
      have z2 := J2.box.z2
      have yo := J2.ord
      have fo := J2.fz
      rcases hf with ⟨k, hk, rfl, hk1, hk2⟩ | ⟨rfl, hk1⟩
      · obtain ⟨N, rfl⟩ : ∃ N, n' = N + 1 := ⟨n' - 1, by omega⟩
        have HD := bDel_any W2 base g N cap k l' (by omega) (by omega) J2.own
        have HE : Hid (l'.eraseIdx k = dropB l' X O) := erase_eq hI'.out hk hk1
        have hh : hasB l' X O = true := has_of hk hk1
        rw [HE.out] at HD
        obtain ⟨A2, hA2⟩ : ∃ A2, (if X < (AN : Int) then X else (AN : Int)) = A2 := ⟨_, rfl⟩
        have hG2 : Hid (backGo (4 - (O + 1)).toNat (dropB l' X O) A2 (O + 1) = R) := by
          show _ = _
          rw [hm2, ← hG1.out, backGo, HX.out, if_pos hh, hA2]
        have hB2 : blkIn f t A2 (O + 1) := by
          have h1 := join_in hA' (by rw [HX.out]; exact hasB_in hh hL') hO
          rw [HX.out, hA2] at h1
          exact h1
        have hL2 : ∀ b ∈ dropB l' X O, blkIn f t b.a b.o := fun b hb => hL' b (dropB_mem hb)
        have hI2 : Hid (Inc (dropB l' X O)) := hI'.out.drop X O
        obtain ⟨D, hD⟩ : ∃ D, dropB l' X O = D := ⟨_, rfl⟩
        rw [hD] at hG2 hL2 hI2 HD
        clear hk1 hk2 HE hh hG1 hI' hL' hD
        go_wp2_with fail
        go_at_call 51
        refine HD.mono ?_
        rintro e W3 ⟨rfl, own3, hb3⟩
        have J3 := J2.del hb3 own3 hgz go1 go2
        have q3 := hb3.cell q2 (by omega)
        have o3 := hb3.cell J2.ord go1
        have B3 := J2.box.but hb3 (Ne.symm hgz)
        have u2 := B3.c2
        have v2 := B3.z2
        have f3 : W3.frozen? ⟨w.heap.size, 0, none⟩ = false := by
          have h2 := hb3.block w.heap.size (World.block_lt_of_cell? W2 _ J2.ord) go1
          exact (World.frozen?_of_block (a := ⟨w.heap.size, 0, none⟩) h2).trans J2.fz
        have J5 := J3.inc go1 go2 (Nat.le_refl _) (O + 1)
        have gw : ¬ (wr.heap.size = zb) := by omega
        have gw2 : ¬ (w.heap.size = zb) := go2
        have gz1 : ¬ (zb = w.heap.size) := by omega
        have gz2 : ¬ (zb = wr.heap.size) := by omega
        clear HD J2 J3 B3 y2 z2 yo fo q2 hb3 own3
        by_cases hXA : X < (AN : Int)
        · obtain rfl : A2 = X := by rw [← hA2, if_pos hXA]
          clear hA2
          go_wp2
          refine ⟨⟨A2, O + 1, D, N, rfl, hB2, hG2, hI2, hL2, by omega, J5⟩, ?_⟩
          rw [J5.ord, HXO.out]
          simp [intOf]; omega
        · obtain rfl : A2 = (AN : Int) := by rw [← hA2, if_neg hXA]
          clear hA2
          go_wp2
          refine ⟨⟨AN, O + 1, D, N, rfl, hB2, hG2, hI2, hL2, by omega, J5⟩, ?_⟩
          rw [J5.ord, HXO.out]
          simp [intOf]; omega
      · have HF : Hid (R = (l', ((AN : Int)), O)) := by
          show _ = _
          rw [← hG1.out, backGo, HX.out, if_neg (by rw [has_none hk1]; simp)]
        clear hk1 hG1 hI'
        go_wp2
        go_region
        all_goals
          have K5 := J2.step (Below.refl _ _).drew
          go_wp2
          go_ret2
          rw [HF.out]
          exact ⟨⟨n', rfl, hn', K5.box, K5.own, K5.b⟩, hA'⟩
    · have HF : Hid (R = (l', ((AN : Int)), O)) := by
        show _ = _
        have := hG.out
        rw [show (4 - O).toNat = 0 by omega] at this
        exact this.symm
      clear hG hI'
      go_wp2
      go_region
      all_goals
        have K5 := J.step (Below.refl _ _).drew
        go_wp2
        go_ret2
        rw [HF.out]
        exact ⟨⟨n', rfl, hn', K5.box, K5.own, K5.b⟩, hA'⟩

end Go.Proofs.Ytffhpjjioefaeae

/-
  OWN TEXT. Contract of the code: buddy.group.
-/
namespace Go.Proofs.Ytffhpjjioefaeae
open Go Go.RowKit Go.Proofs.Ytffhpjjioefaeae.Kit

set_option maxHeartbeats 1000000 in
theorem group_any (w : World) (f t : Int) (fo to_ : Option Addr) (fn fc tn tc : Nat) (a : Int) (h0 : 0 ≤ f) (h1 : f ≤ a) (h2 : a ≤ 256) :
    Calls Try.prog 21 #[.agg #[.int .i64 f, .int .i64 t, .slice fo fn fc, .slice to_ tn tc], .int .i64 a] w fun e w' => e = .returned (.int .i64 ((a - f) / 8)) ∧ Below w.heap.size w w' := by
  have hb1 := below_box w (.cells #[.int .i64 f, .int .i64 t, .slice fo fn fc, .slice to_ tn tc] 25)
  obtain ⟨D, hD⟩ : ∃ D : Nat, a - f = (D : Int) := ⟨(a - f).toNat, by omega⟩
  obtain ⟨N, hq⟩ : ∃ N : Nat, (D : Int) / 8 = (N : Int) := ⟨D / 8, by omega⟩
  rw [hD, hq]
  go_enter Try.func21, Try.ntmps21
  go_wp2
  go_ret
  exact ⟨rfl, hb1⟩

end Go.Proofs.Ytffhpjjioefaeae

/-
  OWN TEXT. Contract of slices.ContainsFunc over blocks, whatever the closure.
-/
namespace Go.Proofs.Ytffhpjjioefaeae
open Go Go.RowKit Go.Proofs.Ytffhpjjioefaeae.Kit

set_option maxHeartbeats 1000000 in
theorem bContains_any (w : World) (F : Nat) (caps : Array Value) (ao : Option Addr) (n cap : Nat) (l : List Bk) (g : Bk → Bool) (h : Blks w ao n l)
    (hcall : ∀ args W, (callFunc F args).run Try.prog W = .ok (.enter F args) W) (hc : HoldsB F caps l g w) :
    Calls Try.prog 40 #[.slice ao n cap, .func (.func F) #[] caps] w fun e w' => e = .returned (.bool (l.any g)) ∧ Below w.heap.size w w' := by
  go_enter Try.func40, Try.ntmps40
  go_wp2_with fail
  go_at_call 44
  refine (bIndex_any w F caps ao n cap l g h hcall hc).mono ?_
  rintro e w1 ⟨hf, hb⟩
  rcases hf with ⟨k, hk, rfl, hg, _⟩ | ⟨rfl, hg⟩
  · have HF : Hid (l.any g = true) := any_of_found hk hg
    clear hg hc
    go_wp2
    go_ret
    exact ⟨ret_bool HF.out.symm, hb⟩
  · have HF : Hid (l.any g = false) := any_of_none hg
    clear hg hc
    go_wp2
    go_ret
    exact ⟨ret_bool HF.out.symm, hb⟩

end Go.Proofs.Ytffhpjjioefaeae

/-
  OWN TEXT. Rows that grow, and what two copies leave; over whatever program.
-/
namespace Go.Proofs.Ytffhpjjioefaeae.Kit
open Go Go.RowKit

theorem row_new {w : World} {e : TypeId} {size cap : Nat} {A : Array Value} (hs : A.size = cap * size) (hm : cap ≤ maxLen) : Row (w.drew.alloc (.cells A e)) e size w.heap.size cap A.toList := by
  refine ⟨?_, by simpa using hs, hm⟩
  have := heap_alloc_new w.drew (.cells A e)
  simpa using this
theorem below_new (w : World) (o : Obj) : Below w.heap.size w (w.drew.alloc o) := ((Below.refl _ _).drew).alloc (Nat.le_refl _) o

theorem grow_some {P : Program} (w : World) (t ty e : TypeId) (i : TypeInfo) (z : Value) (size : Nat) (ht : P.underlying t = some (.slice e)) (hi : P.info? e = some i) (hz : i.zero = some z) (hsz : i.size = size) (hzs : z.cells.size = size)
    (b : Addr) (sLen sCap : Nat) (olds : List Value) (hlo : olds.length = sLen * size) (holds : ∀ j v, olds[j]? = some v → w.cell? (b.add j) = some v)
    (a : Addr) (n c : Nat) (news : List Value) (hl : news.length = n * size) (hnews : ∀ j v, news[j]? = some v → w.cell? (a.add j) = some v)
    (hg : sCap < sLen + n) (hm : sLen + n ≤ maxLen) (hby : (sLen + n) * i.bytes ≤ 140737488355328) :
    ∃ cap' W cur, (Builtin.append_ #[t, t] ty #[.slice (some b) sLen sCap, .slice (some a) n c]).run P w = .ok (.slice (some ⟨w.heap.size, 0, none⟩) (sLen + n) cap') W ∧
      Row W e size w.heap.size cap' cur ∧ cur.take ((sLen + n) * size) = olds ++ news ∧ sLen + n ≤ cap' ∧ Below w.heap.size w W := by
  subst hsz
  have h63 : ((sLen + n : Nat) : Int) ≤ 9223372036854775807 := by simp only [maxLen] at hm; omega
  have hr := run_append_grow (P := P) w t ty e i z ht hi hz b sLen sCap olds hlo holds a n c news hl hnews hg h63 (growslice_fits hg hby)
  have hc1 := grownCap_ge w (sLen + n) sCap e
  have hc2 := grownCap_le_maxLen w (sLen + n) sCap e hm
  refine ⟨_, _, _, hr, row_new ?_ hc2, ?_, hc1, below_new _ _⟩
  · simp only [Array.size_append, List.size_toArray, size_zeroCells, hlo, hl, hzs]
    rw [← Nat.add_mul, ← Nat.add_mul]
    congr 1
    omega
  · simp only [Array.toList_append]
    rw [List.take_append_of_le_length (by simp [hlo, hl, Nat.add_mul]), List.take_of_length_le (by simp [hlo, hl, Nat.add_mul])]

theorem grow_zeros {P : Program} (w : World) (t tn ty e : TypeId) (i : TypeInfo) (z : Value) (size : Nat) (kq kn : IntKind) (ht : P.underlying t = some (.slice e)) (htn : P.underlying tn = some (.int kn)) (hi : P.info? e = some i) (hz : i.zero = some z) (hsz : i.size = size) (hs0 : 0 < size) (hzs : z.cells.size = size)
    (b : Addr) (sLen sCap : Nat) (olds : List Value) (hlo : olds.length = sLen * size) (holds : ∀ j v, olds[j]? = some v → w.cell? (b.add j) = some v)
    (k : Nat) (h0 : 0 < k) (hg : sCap < sLen + k) (hm : sLen + k ≤ maxLen) (hby : (sLen + k) * i.bytes ≤ 140737488355328) :
    ∃ cap' W cur, (Builtin.append_ #[t, tn] ty #[.slice (some b) sLen sCap, .int kq k]).run P w = .ok (.slice (some ⟨w.heap.size, 0, none⟩) (sLen + k) cap') W ∧
      Row W e size w.heap.size cap' cur ∧ cur.take (sLen * size) = olds ∧ sLen + k ≤ cap' ∧ Below w.heap.size w W := by
  subst hsz
  have h63 : ((sLen + k : Nat) : Int) ≤ 9223372036854775807 := by simp only [maxLen] at hm; omega
  have hold : (Builtin.firstCells i.size sLen (.slice (some b) sLen sCap)).run P w.drew = .ok olds.toArray w.drew :=
    run_firstCells_some w.drew i.size sLen b sLen sCap olds hlo (fun j v hj => by simpa using holds j v hj)
  have h48 : k * i.bytes ≤ 281474976710656 := by have := Nat.mul_le_mul_right i.bytes (show k ≤ sLen + k by omega); omega
  have hr := Go.Lib.run_append_grow_zeros (P := P) w t tn ty e i z kq kn ht htn hi hz (some b) sLen sCap olds hold k h0 hs0 hg h63 h48 (growslice_fits hg hby)
  have hc1 := grownCap_ge w (sLen + k) sCap e
  have hc2 := grownCap_le_maxLen w (sLen + k) sCap e hm
  refine ⟨_, _, _, hr, row_new ?_ hc2, ?_, hc1, below_new _ _⟩
  · simp only [Array.size_append, List.size_toArray, size_zeroCells, hlo, hzs]
    rw [← Nat.add_mul, ← Nat.add_mul]
    congr 1
    omega
  · simp only [Array.toList_append, List.append_assoc]
    rw [List.take_append_of_le_length (by simp [hlo]), List.take_of_length_le (by simp [hlo])]

theorem splice_two_a {α : Type} {L X Y : List α} {p : Nat} (h : p + X.length + Y.length ≤ L.length) : (splice (splice L p X) (p + X.length) Y).take (p + X.length + Y.length) = L.take p ++ (X ++ Y) := by
  have e : (splice L p X).take (p + X.length) = L.take p ++ X := by
    unfold splice
    rw [← List.append_assoc, List.take_append_of_le_length (by simp; omega), List.take_of_length_le (by simp; omega)]
  show (List.take (p + X.length) (splice L p X) ++ (Y ++ _)).take _ = _
  rw [e, ← List.append_assoc, List.take_append_of_le_length (by simp; omega), List.take_of_length_le (by simp; omega), List.append_assoc]

theorem splice_two_b {α : Type} {L X Y : List α} {p : Nat} (h : p + X.length + Y.length ≤ L.length) : (splice (splice L (p + X.length) Y) p X).take (p + X.length + Y.length) = L.take p ++ (X ++ Y) := by
  have e1 : (splice L (p + X.length) Y).take p = L.take p := splice_take (by omega) (by omega)
  have e2 : (splice L (p + X.length) Y).drop (p + X.length) = Y ++ L.drop (p + X.length + Y.length) := by
    unfold splice
    rw [List.drop_append_of_le_length (by simp; omega), List.drop_of_length_le (by simp; omega), List.nil_append]
  show (List.take p (splice L (p + X.length) Y) ++ (X ++ List.drop (p + X.length) (splice L (p + X.length) Y))).take _ = _
  rw [e1, e2, ← List.append_assoc, ← List.append_assoc, List.take_append_of_le_length (by simp; omega), List.take_of_length_le (by simp; omega), List.append_assoc]

end Go.Proofs.Ytffhpjjioefaeae.Kit

/-
  OWN TEXT. Contract of slices.Insert at one block.
-/
namespace Go.Proofs.Ytffhpjjioefaeae
open Go Go.RowKit Go.Proofs.Ytffhpjjioefaeae.Kit

/-- A list with one more at a place. -/
def insB (l : List Bk) (i : Nat) (b : Bk) : List Bk := l.take i ++ b :: l.drop i
theorem insB_vals (l : List Bk) (i : Nat) (b : Bk) : bvals (insB l i b) = bvals (l.take i) ++ ([.int .i64 b.a, .int .i64 b.o, .int .i64 b.t] ++ bvals (l.drop i)) := by
  unfold insB
  rw [bvals_append]
  rfl

/-- What is returned: a row of n blocks, the old block or a new one. -/
def RetRow (w w' : World) (base g n : Nat) (l : List Bk) (e : Ending) : Prop :=
  ∃ g' cap', e = .returned (.slice (some ⟨g', 0, none⟩) n cap') ∧ w'.ownsRow base 39 3 (.slice (some ⟨g', 0, none⟩) n cap') n (bvals l) ∧ But g w w' ∧ (g' = g ∨ w.heap.size ≤ g')

theorem ov_false (w : World) (g gv off lb cb la ca : Nat) (cur vs : List Value) (cap kA : Nat) (R : Row w 39 3 g cap cur) (hv : w.heap[gv]? = some (.cells vs.toArray 39 (0, 0))) (hk : vs.length = kA) (hne : gv ≠ g) (hc : 0 < cap) :
    (callFunc 52 #[.slice (some ⟨gv, 0, none⟩) la ca, .slice (some ⟨g, off, none⟩) lb cb]).run Try.prog w = .ok (.value (.bool false)) w := by
  have hz : ∀ w, (Go.sizeOf 39).run Try.prog w = .ok 3 w := fun w => Try.sizeOf39 w
  rw [run_callFunc_extern Try.func52 (by kernel_rfl) (by kernel_rfl) (by kernel_rfl) (e := Extern.SlicesOverlaps.overlaps #[22, 22] #[4]) (by kernel_rfl),
    Lib.run_overlaps_apart w 22 4 39 Try.underlying22 3 hz ⟨gv, 0, none⟩ ⟨g, off, none⟩ la ca lb cb hne 39 39 kA (cap * 3) (by simp [World.shape?, hv, hk]) (by simp [World.shape?, R.h, R.len]) (by omega) (by simp [World.frozen?, hv]) (by simp [World.frozen?, hv])]
  rfl

set_option maxHeartbeats 2000000 in
theorem bIns_end (w : World) (base g N cap i gv : Nat) (l : List Bk) (b : Bk) (hi : i = N) (hN : N ≤ 300) (own : w.ownsRow base 39 3 (.slice (some ⟨g, 0, none⟩) N cap) N (bvals l)) (hv : w.heap[gv]? = some (.cells #[.int .i64 b.a, .int .i64 b.o, .int .i64 b.t] 39 (0, 0))) (_hne : gv ≠ g) :
    Calls Try.prog 46 #[.slice (some ⟨g, 0, none⟩) N cap, .int .i64 i, .slice (some ⟨gv, 0, none⟩) 1 1] w fun e w' => RetRow w w' base g (N + 1) (insB l i b) e := by
  obtain ⟨i1, hj, hy0, hy1, hy2⟩ := info_parts info_block
  have hll := bowns_len own
  obtain ⟨hbg, hnc, cur, R, hcur⟩ := Row.of own
  have hm := R.m
  have hml : N + 1 ≤ maxLen := by unfold maxLen; omega
  unfold maxLen at hm
  have hRl := R.len
  have hvc : ∀ j v, ([.int .i64 b.a, .int .i64 b.o, .int .i64 b.t] : List Value)[j]? = some v → ∀ W : World, W.heap[gv]? = some (.cells #[.int .i64 b.a, .int .i64 b.o, .int .i64 b.t] 39 (0, 0)) → W.cell? ((⟨gv, 0, none⟩ : Addr).add j) = some v := by
    intro j v hjv W hW
    rw [add_at, Nat.zero_add]
    simp only [World.cell?, hW]
    simpa using hjv
  have hv1 : ∀ u ∈ ([.int .i64 b.a, .int .i64 b.o, .int .i64 b.t] : List Value), u.oneCell' = true := ints_oneCell .i64 [_, _, _]
  obtain ⟨vs, hvs⟩ : ∃ vs : List Value, [.int .i64 b.a, .int .i64 b.o, .int .i64 b.t] = vs := ⟨_, rfl⟩
  have hvl : vs.length = 3 := by rw [← hvs]; rfl
  have HVA : (#[.int .i64 b.a, .int .i64 b.o, .int .i64 b.t] : Array Value) = vs.toArray := by rw [← hvs]
  have HI : Hid (bvals (insB l i b) = bvals (l.take i) ++ (vs ++ bvals (l.drop i))) := by show _ = _; rw [insB_vals, hvs]
  rw [HVA] at hv hvc
  rw [hvs] at hvc hv1
  have HVC : Hid _ := hvc
  clear hvs HVA hvc
  have a1 : (i : Int) ≤ N := by omega
  have a2 : ((1 : Int) == 0) = false := by decide
  have a3 : (N : Int) ≤ cap := by omega
  have HE : Hid (bvals l ++ vs = bvals (insB l i b)) := by
    show _ = _
    rw [HI.out, List.take_of_length_le (by omega), List.drop_of_length_le (by omega)]
    simp [bvals]
  subst hi
  have hc1 : ∀ j v, vs[j]? = some v → w.cell? ((⟨gv, 0, none⟩ : Addr).add j) = some v := fun j v h => HVC.out j v h w hv
  by_cases hroom : i + 1 ≤ cap
  · go_enter Try.func46, Try.ntmps46
    go_wp2_with (at_builtin; refine wpList_append_fits _ rfl (.tmp 23) (.tmp 24) 22 rfl base 39 i1 3 Try.underlying22 hj hy1 g i cap (bvals l) rfl own ⟨gv, 0, none⟩ 1 1 vs rfl hvl hc1 hv1 hroom ?_; intro w1 ho1 hb1)
    all_goals
      go_ret
      exact ⟨g, cap, rfl, by rw [← HE.out]; exact ho1, ⟨hb1.os, hb1.tape, hb1.output, hb1.size, fun k hk hne => hb1.block k hk (by intro g; exact hne (by simpa using g))⟩, .inl rfl⟩
  · have hold : ∀ j v, (bvals l)[j]? = some v → w.cell? ((⟨g, 0, none⟩ : Addr).add j) = some v := own.cells rfl
    obtain ⟨cap', W, cur', hrun, R', ht, hc', hb'⟩ := grow_some (P := Try.prog) w 22 22 39 i1 _ 3 Try.underlying22 hj hy0 hy1 rfl ⟨g, 0, none⟩ i cap (bvals l) own.1 hold ⟨gv, 0, none⟩ 1 1 vs hvl hc1 (by omega) hml (by rw [hy2]; omega)
    have ow' := R'.owns (base := base) (n := i + 1) (by have := R.lt; omega) hc' ht
    have HR : Hid _ := hrun
    clear hrun
    go_enter Try.func46, Try.ntmps46
    go_wp2_with (at_builtin; refine Lib.wpList_append_run _ rfl (.tmp 23) (.tmp 24) 22 22 rfl _ _ rfl rfl _ _ HR.out ?_)
    all_goals
      go_ret
      exact ⟨w.heap.size, cap', rfl, by rw [← HE.out]; exact ow', .of_below hb', .inr (Nat.le_refl _)⟩

end Go.Proofs.Ytffhpjjioefaeae

/-
  OWN TEXT. Contract of slices.Insert at one block: there is room.
-/
namespace Go.Proofs.Ytffhpjjioefaeae
open Go Go.RowKit Go.Proofs.Ytffhpjjioefaeae.Kit

set_option maxHeartbeats 600000 in
theorem bIns_shift (w : World) (base g N cap i gv : Nat) (l : List Bk) (b : Bk) (hi : i < N) (hN : N ≤ 300) (hroom : N + 1 ≤ cap) (own : w.ownsRow base 39 3 (.slice (some ⟨g, 0, none⟩) N cap) N (bvals l)) (hv : w.heap[gv]? = some (.cells #[.int .i64 b.a, .int .i64 b.o, .int .i64 b.t] 39 (0, 0))) (hne : gv ≠ g) :
    Calls Try.prog 46 #[.slice (some ⟨g, 0, none⟩) N cap, .int .i64 i, .slice (some ⟨gv, 0, none⟩) 1 1] w fun e w' => RetRow w w' base g (N + 1) (insB l i b) e := by
  obtain ⟨i1, hj, hy0, hy1, hy2⟩ := info_parts info_block
  have hll := bowns_len own
  obtain ⟨hbg, hnc, cur, R, hcur⟩ := Row.of own
  have hm := R.m
  have hml : N + 1 ≤ maxLen := by unfold maxLen; omega
  unfold maxLen at hm
  have hRl := R.len
  have hvc : ∀ j v, ([.int .i64 b.a, .int .i64 b.o, .int .i64 b.t] : List Value)[j]? = some v → ∀ W : World, W.heap[gv]? = some (.cells #[.int .i64 b.a, .int .i64 b.o, .int .i64 b.t] 39 (0, 0)) → W.cell? ((⟨gv, 0, none⟩ : Addr).add j) = some v := by
    intro j v hjv W hW
    rw [add_at, Nat.zero_add]
    simp only [World.cell?, hW]
    simpa using hjv
  have hv1 : ∀ u ∈ ([.int .i64 b.a, .int .i64 b.o, .int .i64 b.t] : List Value), u.oneCell' = true := ints_oneCell .i64 [_, _, _]
  obtain ⟨vs, hvs⟩ : ∃ vs : List Value, [.int .i64 b.a, .int .i64 b.o, .int .i64 b.t] = vs := ⟨_, rfl⟩
  have hvl : vs.length = 3 := by rw [← hvs]; rfl
  have HVA : (#[.int .i64 b.a, .int .i64 b.o, .int .i64 b.t] : Array Value) = vs.toArray := by rw [← hvs]
  have HI : Hid (bvals (insB l i b) = bvals (l.take i) ++ (vs ++ bvals (l.drop i))) := by show _ = _; rw [insB_vals, hvs]
  rw [HVA] at hv hvc
  rw [hvs] at hvc hv1
  have HVC : Hid _ := hvc
  clear hvs HVA hvc
  have a1 : (i : Int) ≤ N := by omega
  have a2 : ((1 : Int) == 0) = false := by decide
  have a3 : (N : Int) ≤ cap := by omega
  obtain ⟨XS, hXS⟩ : ∃ XS, XS = bvals (l.drop i) := ⟨_, rfl⟩
  have hXl : XS.length = (N - i) * 3 := by rw [hXS, length_bvals, List.length_drop, hll]
  have hX1 : ∀ u ∈ XS, u.oneCell' = true := by rw [hXS]; exact bvals_oneCell _
  have hXc : ∀ j u, XS[j]? = some u → cur[i * 3 + j]? = some u := by
    intro j u hu
    rw [hXS, ← bvals_drop, List.getElem?_drop] at hu
    rw [← hcur, List.getElem?_take] at hu
    split at hu
    · exact hu
    · cases hu
  have HI2 : Hid (bvals (insB l i b) = cur.take (i * 3) ++ (vs ++ XS)) := by
    show _ = _
    rw [HI.out, hXS, take_cut hcur (Nat.mul_le_mul_right 3 (show i ≤ N by omega)), bvals_take]
  have HXc : Hid _ := hXc
  clear hXS hXc HI hcur
  have b1 : ((i : Int) == (N : Int)) = false := by simp; omega
  have b2 : ¬ (cap = i) := by omega
  have b3 : (i : Int) ≤ (N : Int) + 1 := by omega
  have b4 : (i : Int) + 1 ≤ (N : Int) + 1 := by omega
  have b5 : ((i : Int) + 1).toNat = i + 1 := by omega
  have b6 : ((N : Int) + 1).toNat = N + 1 := by omega
  have b7 : (0 : Int) ≤ (i : Int) + 1 := by omega
  have b8 : (0 : Int) ≤ (N : Int) + 1 := by omega
  have b9 : i ≤ N := by omega
  have b10 : i ≤ cap := by omega
  have b11 : (i : Int) ≤ cap := by omega
  have bw : IntKind.i64.wrap ((i : Int) + 1) = (i : Int) + 1 := by rw [IntKind.wrap_i64]; omega
  have hov : ∀ lb cb, (callFunc 52 #[.slice (some ⟨gv, 0, none⟩) 1 1, .slice (some ⟨g, (i + 1) * 3, none⟩) lb cb]).run Try.prog w = .ok (.value (.bool false)) w := fun lb cb => ov_false w g gv _ lb cb 1 1 cur vs cap 3 R hv hvl hne (by omega)
  have b12 : ¬ (cap = i + 1) := by omega
  have b13 : ¬ ((cap : Int) < (N : Int) + 1) := by omega
  have b14 : (N : Int) + 1 ≤ (cap : Int) := by omega
  have RD := R.below (Below.refl w.heap.size w).drew
  have hv2 : w.drew.heap[gv]? = some (.cells vs.toArray 39 (0, 0)) := hv
  clear own
  go_enter Try.func46, Try.ntmps46
  go_wp2_with (simp only [hov])
  go_region_law (refine step_copy_k rfl (.tmp 73) (.tmp 76) 22 22 rfl 39 3 Try.underlying22 size_block (some ⟨g, (i + 1) * 3, none⟩) (some ⟨g, i * 3, none⟩) (N - i) (cap - (i + 1)) (N + 1 - i) (cap - i) (by simp [Act.eval, Act.put]) (by simp [Act.eval, Act.put]) g ((i + 1) * 3) cur 39 RD.h XS (N - i) (by simp only [Nat.min_def]; split <;> omega) hXl (fun _ => ⟨rfl, _, rfl, fun j v hj => by rw [add_at, RD.cell]; exact HXc.out j v hj⟩) (by omega) hX1 ?_; intro w1 hg1 hb1)
  all_goals
    have hv3 : w1.heap[gv]? = some (.cells vs.toArray 39 (0, 0)) := (hb1.block gv (Array.getElem?_eq_some_iff.1 hv2).1 hne).trans hv2
    clear hov RD
    go_wp2_with (refine wpList_copy_k rfl (.tmp 80) (.tmp 81) 22 22 rfl 39 3 Try.underlying22 size_block _ _ _ _ _ _ rfl rfl g (i * 3) (splice cur ((i + 1) * 3) XS) 39 hg1.out vs 1 (by simp only [Nat.min_def]; split <;> omega) hvl (fun _ => ⟨rfl, _, rfl, fun j v hj => HVC.out j v hj w1 hv3⟩) (by rw [length_splice _ _ _ (by omega)]; omega) hv1 ?_; intro w2 hg2 hb2)
    go_ret
    have e3 : (i + 1) * 3 = i * 3 + vs.length := by omega
    have hl2 : (splice (splice cur ((i + 1) * 3) XS) (i * 3) vs).length = cap * 3 := by rw [length_splice _ _ _ (by rw [length_splice _ _ _ (by omega)]; omega), length_splice _ _ _ (by omega)]; exact hRl
    have R2 : Row w2 39 3 g cap (splice (splice cur ((i + 1) * 3) XS) (i * 3) vs) := ⟨hg2.out, hl2, R.m⟩
    refine ⟨g, cap, rfl, R2.owns hbg hroom ?_, ((But.of_below (Below.refl _ _).drew).trans hb1).trans hb2, .inl rfl⟩
    rw [HI2.out, e3, show (N + 1) * 3 = i * 3 + vs.length + XS.length by omega]
    exact splice_two_b (by omega)

end Go.Proofs.Ytffhpjjioefaeae
