/-
  OWN TEXTS, bundled: LKeep0, LKeep, LRel.
-/
import Derived.Test.YtbjlbmofdnkmiaaPagesFreesPart13
import Derived.Test.YtbjlbmofdnkmiaaPagesFreesPart15
import Derived.Test.YtbjlbmofdnkmiaaPagesFreesPart16

/-
  OWN TEXT. A page is kept on a list: plain; and what is done in memory.
-/
namespace Go.Proofs.Ytbjlbmofdnkmiaa
open Go Go.RowKit Go.Proofs.Ytbjlbmofdnkmiaa.Kit

/-- The first numbers of a slice. -/
theorem y_sliceHi {C : World → Prop} {L : List (Nat × Value)} {o : Oper} {x : Operand} {g n cap H : Nat} (ho : o.op = .slice 24 x none (some (.const (.int .i64 (H : Nat)))) none) (hx : ev L x = some (.slice (some ⟨g, 0, none⟩) n cap)) (hH : H ≤ cap) :
    YC Try.prog C L o (.slice (some ⟨g, 0, none⟩) H cap) := by
  intro ρ hρ wx _
  have h1 := hρ (.const (.int .i64 (H : Nat))) _ rfl
  have e1 : (Go.sizeOf 3).run Try.prog wx = .ok 1 wx := Try.sizeOf3 wx
  have e : (Instr.sliceAt 24 (.slice (some ⟨g, 0, none⟩) n cap) none (some (.int .i64 (H : Nat))) none).run Try.prog wx = .ok (.slice (some ⟨g, 0, none⟩) H cap) wx := by
    simp [Instr.sliceAt, Instr.slice, Instr.sliceBounds, Instr.sliceBound, run_under Try.underlying24, e1, go_sem, asIntOf, hH]
  simp [execOp, ho, hρ _ _ hx, h1, e, go_sem]

/-- 'append(l, p)' where l has no room: new memory. -/
theorem app1_run (w : World) (ty : TypeId) (po : Option Addr) (pn : Nat) (ps : List Int) (p : Int) (gb : Nat) (hN : Nums w po pn ps) (hn : pn ≤ 300) (hb : w.heap[gb]? = some (.cells #[.int .i64 p] 3 (0, 0))) (hnil : po = none → pn = 0) :
    ∃ g' cap' W, (Builtin.append_ #[24, 24] ty #[.slice po pn pn, .slice (some ⟨gb, 0, none⟩) 1 1]).run Try.prog w = .ok (.slice (some ⟨g', 0, none⟩) (pn + 1) cap') W ∧
      W.ownsRow w.heap.size 3 1 (.slice (some ⟨g', 0, none⟩) (pn + 1) cap') (pn + 1) (vals (ps ++ [p])) ∧ Below w.heap.size w W ∧ w.heap.size ≤ g' := by
  obtain ⟨i1, hj, hy0, hy1, hy2⟩ := info_parts info_int
  have hlen := hN.len
  have hnews : ∀ j v, (vals [p])[j]? = some v → w.cell? ((⟨gb, 0, none⟩ : Addr).add j) = some v := by
    intro j v hjv
    rw [add_at, Nat.zero_add]
    simp only [World.cell?, hb]
    change ([Value.int .i64 p] : List Value)[j]? = some v at hjv
    simpa using hjv
  cases po with
  | none =>
    obtain rfl := hnil rfl
    have hl : ps = [] := List.eq_nil_of_length_eq_zero hlen
    subst hl
    obtain ⟨v', w1, hrun, hown, hgrow, _⟩ := run_append_own (P := Try.prog) w w.heap.size 24 ty 3 i1 (.int .i64 0) 1 8 Try.underlying24 hj hy0 hy1 hy2 rfl (by decide) (.slice none 0 0) 0 [] (World.ownsRow_nil _ _ _ _) ⟨gb, 0, none⟩ 1 1 (vals [p]) rfl hnews (vals_oneCell _) (by unfold maxLen; omega) (by omega) (Nat.le_refl _)
    rw [List.nil_append, Nat.zero_add] at hown
    have hb' : Below w.heap.size w w1 := (Below.refl _ _).grown hgrow (Nat.le_refl _) (by simp [Value.ownBlock])
    rcases hown.2 with ⟨e1, e2⟩ | ⟨g, cap', cur, e1, hB, _⟩
    · cases e2
    · subst e1
      exact ⟨g, cap', w1, hrun, hown, hb', hB⟩
  | some a =>
    have hold : ∀ j v, (vals ps)[j]? = some v → w.cell? (a.add j) = some v := by
      by_cases h0 : 0 < ps.length
      · obtain ⟨a', he, hs⟩ := src_of hN.at_ h0
        cases he
        exact hs
      · intro j v hj
        have : vals ps = [] := List.eq_nil_of_length_eq_zero (by rw [length_vals]; omega)
        rw [this] at hj
        simp at hj
    obtain ⟨cap', W, cur, hrun, R, ht, hc, hbW⟩ := grow_some (P := Try.prog) w 24 ty 3 i1 (.int .i64 0) 1 Try.underlying24 hj hy0 hy1 rfl a pn pn (vals ps) (by rw [length_vals]; omega) hold ⟨gb, 0, none⟩ 1 1 (vals [p]) rfl hnews (by omega) (by unfold maxLen; omega) (by rw [hy2]; omega)
    exact ⟨w.heap.size, cap', W, hrun, R.owns (Nat.le_refl _) hc (by rw [vals_append]; exact ht), hbW, Nat.le_refl _⟩

/-- The pages of a list: plain. -/
def lsPages (l : List Ls) (x : Ls) : List Int := ((l.find? fun a => decide (a.c = x.c ∧ a.z = x.z ∧ a.t = x.t)).map (·.pages)).getD []
theorem lsPages_at {l : List Ls} (hr : RiseP l) {x : Ls} {i : Nat} {b : Bool} (h : AtL l x i b) : lsPages l x = if b = true then (l.getD i .zero).pages else [] := by
  have hno : ∀ a ∈ l.take i, ¬ (a.c = x.c ∧ a.z = x.z ∧ a.t = x.t) := fun a ha g => by
    obtain ⟨j, hj, _, rfl⟩ := getD_take_mem ha
    have := (ahead_same g).1.1 (h.2.1 j hj)
    unfold aheadL at this
    omega
  have e1 : (l.take i).find? (fun a => decide (a.c = x.c ∧ a.z = x.z ∧ a.t = x.t)) = none := by
    rw [List.find?_eq_none]
    intro a ha
    simpa using hno a ha
  unfold lsPages
  have e0 : l.find? (fun a => decide (a.c = x.c ∧ a.z = x.z ∧ a.t = x.t)) = (l.drop i).find? (fun a => decide (a.c = x.c ∧ a.z = x.z ∧ a.t = x.t)) := by
    conv => lhs; rw [← List.take_append_drop i l]
    rw [List.find?_append, e1, Option.none_or]
  rw [e0]
  cases b with
  | true =>
    obtain ⟨g1, g2⟩ := h.2.2.2.1 rfl
    have e2 : l.drop i = l.getD i .zero :: l.drop (i + 1) := by
      rw [List.getD_eq_getElem?_getD, List.getElem?_eq_getElem g1]
      exact (List.getElem_cons_drop g1).symm
    rw [e2, List.find?_cons_of_pos (by simpa using g2)]
    rfl
  | false =>
    have e2 : (l.drop i).find? (fun a => decide (a.c = x.c ∧ a.z = x.z ∧ a.t = x.t)) = none := by
      rw [List.find?_eq_none]
      intro a ha
      obtain ⟨j, hj, hl, rfl⟩ := getD_drop_mem ha
      intro g
      have g' := of_decide_eq_true g
      by_cases e : j = i
      · subst e
        exact absurd (h.2.2.2.2 ⟨hl, g'⟩) (by simp)
      · exact h.2.2.1 i (Nat.le_refl _) (by omega) ((ahead_same g').2.1 (rise_lt hr (by omega) hl))
    rw [e2]
    rfl

/-- A single page is kept: plain. -/
def keepH (H : Hp) (cpu p : Int) : Hp :=
  if 8 < (lsPages H.lists ⟨cpu, (zIdx H p : Nat), typeZ (H.zones.getD (zIdx H p) ⟨0, 0, [], []⟩) p, []⟩ ++ [p]).length then
    { backs H ((lsPages H.lists ⟨cpu, (zIdx H p : Nat), typeZ (H.zones.getD (zIdx H p) ⟨0, 0, [], []⟩) p, []⟩ ++ [p]).take 4) with
      lists := setLs H.lists ⟨cpu, (zIdx H p : Nat), typeZ (H.zones.getD (zIdx H p) ⟨0, 0, [], []⟩) p, (lsPages H.lists ⟨cpu, (zIdx H p : Nat), typeZ (H.zones.getD (zIdx H p) ⟨0, 0, [], []⟩) p, []⟩ ++ [p]).drop 4⟩ }
  else { H with lists := setLs H.lists ⟨cpu, (zIdx H p : Nat), typeZ (H.zones.getD (zIdx H p) ⟨0, 0, [], []⟩) p, lsPages H.lists ⟨cpu, (zIdx H p : Nat), typeZ (H.zones.getD (zIdx H p) ⟨0, 0, [], []⟩) p, []⟩ ++ [p]⟩ }

/-- Zones and lists may be, and no page is twice in them. -/
structure HMid (H : Hp) : Prop where
  zs : ZsOk H
  ls : LssOk H
  cpus : H.cpus ≤ 4
  cnt : ∀ p, zcnt H p + Kit.cnt ((H.lists.flatMap (·.pages)).map pgB) p ≤ 1
theorem HMid.of {H : Hp} (h : HMay H) : HMid H := ⟨h.zs, h.ls, h.cpus.2, fun p => by have := h.cntLe p; omega⟩
theorem LssOk.page {H : Hp} (hz : ZsOk H) (hl : LssOk H) {p : Int} (hp : p ∈ H.lists.flatMap (·.pages)) : 0 ≤ p ∧ p < 256 := by
  obtain ⟨L, hL, hp⟩ := List.mem_flatMap.1 hp
  obtain ⟨i, hi, rfl⟩ := List.getElem_of_mem hL
  obtain ⟨j, hj, rfl⟩ := List.getElem_of_mem hp
  have hk := hl.ok i hi
  rw [List.getD_eq_getElem?_getD, List.getElem?_eq_getElem hi] at hk
  simp only [Option.getD_some] at hk
  have hq := hk.p j hj
  rw [List.getD_eq_getElem?_getD (l := (H.lists[i]).pages), List.getElem?_eq_getElem hj] at hq
  simp only [Option.getD_some] at hq
  have hz' := hk.z
  have z0 := hz.m0.new
  have z1 := hz.m1.new
  unfold newOk at z0 z1
  have f0 := hz.f0
  have f1 := hz.f1
  have t1 := hz.t1
  rcases (show (H.lists[i]).z = 0 ∨ (H.lists[i]).z = 1 by omega) with e | e <;> rw [e] at hq
  · have hq' : (H.zones.getD 0 ⟨0, 0, [], []⟩).f ≤ (H.lists[i]).pages[j] ∧ (H.lists[i]).pages[j] < (H.zones.getD 0 ⟨0, 0, [], []⟩).t := hq
    omega
  · have hq' : (H.zones.getD 1 ⟨0, 0, [], []⟩).f ≤ (H.lists[i]).pages[j] ∧ (H.lists[i]).pages[j] < (H.zones.getD 1 ⟨0, 0, [], []⟩).t := hq
    omega
theorem cnt_flat {ls : List Ls} {L : Ls} (h : L ∈ ls) (p : Int) : Kit.cnt (L.pages.map pgB) p ≤ Kit.cnt ((ls.flatMap (·.pages)).map pgB) p := by
  induction ls with
  | nil => simp at h
  | cons a ls ih =>
    rw [List.flatMap_cons, List.map_append, cnt_append]
    rcases List.mem_cons.1 h with rfl | h
    · omega
    · have := ih h; omega
/-- The first pages of a list may go back. -/
theorem HMid.four {H : Hp} (h : HMid H) {L : Ls} (hL : L ∈ H.lists) (n : Nat) : CanBacks H (L.pages.take n) ∧ ZsOk (backs H (L.pages.take n)) ∧ ∀ p, zcnt (backs H (L.pages.take n)) p = zcnt H p + Kit.cnt ((L.pages.take n).map pgB) p := by
  refine backs_ok _ H h.zs (fun p hp => LssOk.page h.zs h.ls (List.mem_flatMap.2 ⟨L, hL, List.mem_of_mem_take hp⟩)) (fun p => ?_)
  have h1 := h.cnt p
  have h2 := cnt_flat hL p
  have h3 : Kit.cnt (L.pages.map pgB) p = Kit.cnt ((L.pages.take n).map pgB) p + Kit.cnt ((L.pages.drop n).map pgB) p := by
    conv => lhs; rw [← List.take_append_drop n L.pages]
    rw [List.map_append, cnt_append]
  omega
/-- A page is in its zone. -/
theorem zone_in {H : Hp} (h : ZsOk H) {p : Int} (h0 : 0 ≤ p) (h1 : p < 256) : ZMay (H.zones.getD (zIdx H p) ⟨0, 0, [], []⟩) ∧ (H.zones.getD (zIdx H p) ⟨0, 0, [], []⟩).f ≤ p ∧ p ≤ (H.zones.getD (zIdx H p) ⟨0, 0, [], []⟩).t - 1 := by
  have f0 := h.f0
  have f1 := h.f1
  have t1 := h.t1
  unfold zIdx
  split
  · exact ⟨h.m0, by omega, by omega⟩
  · exact ⟨h.m1, by omega, by omega⟩
/-- There are few lists. -/
theorem lists_few {H : Hp} (h : LssOk H) (hc : H.cpus ≤ 4) : H.lists.length ≤ 24 := by
  have key : ∀ i, i < H.lists.length → (i : Int) ≤ (H.lists.getD i .zero).c * 6 + (H.lists.getD i .zero).z * 3 + (H.lists.getD i .zero).t := by
    intro i
    induction i with
    | zero =>
      intro hi
      have k := h.ok 0 hi
      have k1 := k.c
      have k2 := k.z
      have k3 := k.t
      unfold typeOk at k3
      omega
    | succ i ih =>
      intro hi
      have g := ih (by omega)
      have k := h.ok i (by omega)
      have m := h.ok (i + 1) hi
      have o := h.ord (i + 1) (by omega) hi
      rw [show i + 1 - 1 = i by omega] at o
      unfold aheadL at o
      have k2 := k.z
      have k3 := k.t
      have m2 := m.z
      have m3 := m.t
      unfold typeOk at k3 m3
      omega
  by_cases e : H.lists.length ≤ 24
  · exact e
  · have k := key 24 (by omega)
    have m := h.ok 24 (by omega)
    have m1 := m.c
    have m2 := m.z
    have m3 := m.t
    unfold typeOk at m3
    omega

/-- The blocks of P are written, and new ones. -/
structure Ex (P : Nat → Prop) (w w' : World) : Prop where
  os : w'.os = w.os
  tape : w'.tape = w.tape
  output : w'.output = w.output
  size : w.heap.size ≤ w'.heap.size
  block : ∀ k, k < w.heap.size → ¬ P k → w'.heap[k]? = w.heap[k]?
theorem Ex.trans {P : Nat → Prop} {w w' w'' : World} (h : Ex P w w') (k : Ex P w' w'') : Ex P w w'' :=
  ⟨k.os.trans h.os, k.tape.trans h.tape, k.output.trans h.output, Nat.le_trans h.size k.size, fun j hj hp => (k.block j (Nat.lt_of_lt_of_le hj h.size) hp).trans (h.block j hj hp)⟩
theorem Ex.of_below {P : Nat → Prop} {w w' : World} (h : Below w.heap.size w w') : Ex P w w' := ⟨h.os, h.tape, h.output, h.size, fun k hk _ => h.block k hk⟩
theorem Ex.of_but {P : Nat → Prop} {b : Nat} {w w' : World} (h : But b w w') (hp : P b) : Ex P w w' := ⟨h.os, h.tape, h.output, h.size, fun k hk hn => h.block k hk (fun e => hn (e ▸ hp))⟩
theorem Ex.of_bu2 {P : Nat → Prop} {g z : Nat} {w w' : World} (h : Bu2 g z w w') (hg : P g) (hz : P z) : Ex P w w' := ⟨h.os, h.tape, h.output, h.size, fun k hk hn => h.block k hk (fun e => hn (e ▸ hg)) (fun e => hn (e ▸ hz))⟩
theorem Ex.new {P : Nat → Prop} {b : Nat} {w w' w'' : World} (h : Ex P w w') (hb : But b w' w'') (hn : w.heap.size ≤ b) : Ex P w w'' :=
  ⟨hb.os.trans h.os, hb.tape.trans h.tape, hb.output.trans h.output, Nat.le_trans h.size hb.size, fun k hk h1 => (hb.block k (Nat.lt_of_lt_of_le hk h.size) (by omega)).trans (h.block k hk h1)⟩
theorem Ex.row {P : Nat → Prop} {w w' : World} {b : Nat} {x : Obj} (h : Ex P w w') (hr : w.heap[b]? = some x) (hp : ¬ P b) : w'.heap[b]? = some x := by
  rw [h.block b (Array.getElem?_eq_some_iff.1 hr).1 hp]; exact hr

end Go.Proofs.Ytbjlbmofdnkmiaa

/-
  OWN TEXT. Contracts of the code: pages.keep (written by sxkeep.py).
-/
namespace Go.Proofs.Ytbjlbmofdnkmiaa
open Go Go.RowKit Go.Proofs.Ytbjlbmofdnkmiaa.Kit

theorem nums_nil {w : World} {n : Nat} {xs : List Int} (h : Nums w none n xs) : n = 0 := by
  by_cases h0 : 0 < xs.length
  · obtain ⟨b, o, e, _⟩ := h.at_ 0 h0
    cases e
  · have := h.len; omega
theorem nums_take {w : World} {ao : Option Addr} {n k : Nat} {xs : List Int} (h : Nums w ao n xs) (hk : k ≤ n) : Nums w ao k (xs.take k) := by
  have hl := h.len
  have hr := h.reach
  refine ⟨by rw [List.length_take]; omega, by omega, fun i hi => ?_⟩
  rw [List.length_take] at hi
  obtain ⟨b, o, e, hc⟩ := h.at_ i (by omega)
  refine ⟨b, o, e, ?_⟩
  rw [hc]
  simp only [List.getD_eq_getElem?_getD]
  rw [List.getElem?_take_of_lt (by omega)]
theorem bs_int1 (a : Int) (w : World) : (Instr.buildSlice 24 1 #[(0, .int .i64 a)]).run Try.prog w = .ok (.slice (some ⟨w.heap.size, 0, none⟩) 1 1) (w.alloc (.cells #[.int .i64 a] 3)) := by
  simp [go_sem]
theorem lss_mem {H : Hp} (h : LssOk H) {l : Ls} (hl : l ∈ H.lists) : LsOk H l := by
  obtain ⟨i, hi, rfl⟩ := List.getElem_of_mem hl
  have := h.ok i hi
  rwa [List.getD_eq_getElem?_getD, List.getElem?_eq_getElem hi] at this
theorem AwayL.toF {b : Nat} {y : Hx} (h : AwayL b y) : AwayF b y := ⟨h.f, h.t⟩
theorem awayF_old {w : World} {b : Nat} {y : Hx} (h : y.At w) (hb : w.heap.size ≤ b) : AwayF b y := (awayL_old h hb).toF
theorem awayL_withZ {b : Nat} {y : Hx} {zs : List Zc} (h : AwayL b y) (f : AwayF b (y.withZ zs)) (h0 : 0 < y.zs.length) : AwayL b (y.withZ zs) :=
  ⟨fun _ => h.z h0, f.f, f.t, h.m, h.p, h.v⟩
theorem awayF_away {b : Nat} {y : Hx} {zs : List Zc} (h : Away b y) (f : AwayF b (y.withZ zs)) : Away b (y.withZ zs) := ⟨f.f, f.t, h.m, h.l, h.p, h.v⟩
theorem away_withL {b : Nat} {y : Hx} {ls : List Lc} {lo : Option Addr} {ln lc : Nat} (h : Away b y) (hl : 0 < ls.length → ∀ a, lo = some a → a.block ≠ b) (hm : ∀ l ∈ ls, l ∈ y.ls ∨ ∀ a, l.po = some a → a.block ≠ b) : Away b (y.withL ls lo ln lc) :=
  ⟨h.f, h.t, h.m, hl, fun l hl' h0 => (hm l hl').elim (fun g => h.p l g h0) (fun g => g), h.v⟩

set_option maxRecDepth 10000 in
set_option maxHeartbeats 4000000 in
theorem pKeep_f (w : World) (B gz gl hbk : Nat) (y : Hx) (cpu p : Int) (i zI : Nat) (tI : Int) (rhbk : w.heap[hbk]? = some (.cells #[.slice y.zo y.zn y.zc, .slice y.mo y.mn y.mc, .int .i64 y.cpus, .slice y.lo y.ln y.lc, .slice y.vo y.vn y.vc] 28 (0, 0))) (HY : HZ w B gz y) (ol : w.ownsRow B 57 4 (.slice y.lo y.ln y.lc) y.ln (c4 (y.ls.map Lc.q))) (el : ∀ a, y.lo = some a → a.block = gl) (al : AwayL gl y) (ah : AwayL hbk y)
    (_hhz : hbk ≠ gz) (hhl : hbk ≠ gl) (_hzl : gz ≠ gl) (hgw : gl < w.heap.size) (_hzw : gz < w.heap.size) (_hcap : ∀ l ∈ y.ls, l.pc = l.pn) (hM : HMid y.hp) (hp : 0 ≤ p ∧ p < 256) (hB : B ≤ w.heap.size) (hzI : zIdx y.hp p = zI) (htI : typeZ (y.hp.zones.getD zI ⟨0, 0, [], []⟩) p = tI) (hA : AtL y.hp.lists ⟨cpu, (zI : Nat), tI, []⟩ i false) :
    Calls Try.prog 71 #[.pointer (some ⟨hbk, 0, none⟩), .int .i64 cpu, .int .i64 p] w fun e w' => e = .returned (.int .i64 0) ∧ ∃ y2 : Hx, w'.heap[hbk]? = some (.cells #[.slice y2.zo y2.zn y2.zc, .slice y2.mo y2.mn y2.mc, .int .i64 y2.cpus, .slice y2.lo y2.ln y2.lc, .slice y2.vo y2.vn y2.vc] 28 (0, 0)) ∧ y2.At w' ∧ y2.hp = keepH y.hp cpu p ∧ Ex (fun k => k = gz ∨ k = gl ∨ k = hbk) w w' ∧ (∀ b, b < w.heap.size → b ≠ gl → Away b y → Away b y2) ∧ y2.zo = y.zo := by
  have hlw := row_lt rhbk
  have hll : y.hp.lists.length = y.ln := by show (y.ls.map _).length = _; rw [List.length_map]; exact HY.at_.lists.len
  have hfew := lists_few hM.ls hM.cpus
  have hzn : y.zn = 2 := by have e : y.hp.zones.length = y.zs.length := (by show (y.zs.map _).length = _; rw [List.length_map]); have := hM.zs.n; have := HY.at_.zones.len; omega
  have hzlt : zI < 2 := by rw [← hzI]; exact zIdx_lt _ _
  have hord : RiseL y.ls := fun k h0 h1 => by have := hM.ls.ord k h0 (by rw [hll]; have := HY.at_.lists.len; omega); rw [show y.hp.lists = y.ls.map (·.l) from rfl, getD_l, getD_l] at this; exact this
  have hrp : RiseP y.hp.lists := riseP_of hord
  have hil := hA.1
  have B0 := Below.refl w.heap.size w
  refine sx_enter (args := [_, _, _]) 76 Try.func71 rfl rfl rfl ?_
  intro A f
  refine wp_seq ?_
  refine sx_list ?_
  refine l_do f rfl rfl rfl (y_assign rfl rfl) ?_; clear f A; intro A f
  refine wpList_nil ?_
  refine x_tn ?_
  refine wp_seq ?_
  refine sx_list ?_
  refine l_do f rfl rfl rfl (y_move rfl rfl) ?_; clear f A; intro A f
  refine l_do f rfl rfl rfl (y_nil rfl rfl) ?_; clear f A; intro A f
  refine l_do f rfl rfl rfl (y_loadN (vs := [_, _, _, _, _]) rfl rfl (ag rfl) rfl (rowls (rowq rhbk) _ _ ⟨rfl, rfl, rfl, rfl, rfl, trivial⟩)) ?_; clear f A; intro A f
  refine l_do f rfl rfl rfl (y_move rfl rfl) ?_; clear f A; intro A f
  refine l_call f rfl rfl rfl (IsCall.mk' (cap := []) rfl rfl rfl) (pl rfl) (by have e := pZoneOf_c _ y p (HY.at_.below B0) hzn; rw [hzI] at e; exact e) ?_; clear f A; rintro _ W2 ⟨rfl, hb1⟩; refine ⟨_, rfl, ?_⟩; intro A f; replace B0 := Below.next B0 hb1; replace rhbk := row_next rhbk hb1
  refine l_do f rfl rfl rfl (y_assign rfl rfl) ?_; clear f A; intro A f
  refine wpList_nil ?_
  refine x_tn ?_
  refine wp_seq ?_
  refine sx_list ?_
  refine l_do f rfl rfl rfl (y_move rfl rfl) ?_; clear f A; intro A f
  refine l_do f rfl rfl rfl (y_nil rfl rfl) ?_; clear f A; intro A f
  refine l_do f rfl rfl rfl (y_field rfl rfl (fo rfl)) ?_; clear f A; intro A f
  refine l_do f rfl rfl rfl (y_load1 rfl rfl (ag rfl) (rowl (rowq rhbk) rfl)) ?_; clear f A; intro A f
  refine l_do f rfl rfl rfl (y_move rfl rfl) ?_; clear f A; intro A f
  obtain ⟨gq, oq, zq, foq, fnq, fcq, toq, tnq, tcq, haq, c0q, c1q, c2q, c3q, hatq, hXq⟩ := HY.at_.zones.at (zI) (by omega)
  replace c0q := St.of c0q; replace c1q := St.of c1q; replace c2q := St.of c2q; replace c3q := St.of c3q
  have hqe : y.hp.zones.getD zI ⟨0, 0, [], []⟩ = zq := by rw [hp_zone, hXq.out]
  have hzin := zone_in hM.zs hp.1 hp.2
  rw [hzI, hqe] at hzin
  have htq : typeZ zq p = tI := by rw [← hqe]; exact htI
  refine l_do f rfl rfl rfl (y_index rfl rfl (by first | rfl | assumption) rfl (es rfl) (by omega)) ?_; clear f A; intro A f
  refine l_do f rfl rfl rfl (y_loadN (vs := [_, _, _, _]) rfl rfl (ag rfl) rfl ⟨(by first | assumption | exact St.q c0q B0 | exact St.q c1q B0 | exact St.q c2q B0 | exact St.q c3q B0), (by first | assumption | exact St.q c0q B0 | exact St.q c1q B0 | exact St.q c2q B0 | exact St.q c3q B0), (by first | assumption | exact St.q c0q B0 | exact St.q c1q B0 | exact St.q c2q B0 | exact St.q c3q B0), (by first | assumption | exact St.q c0q B0 | exact St.q c1q B0 | exact St.q c2q B0 | exact St.q c3q B0), trivial⟩) ?_; clear f A; intro A f
  refine l_do f rfl rfl rfl (y_move rfl rfl) ?_; clear f A; intro A f
  refine l_call f rfl rfl rfl (IsCall.mk' (cap := []) rfl rfl rfl) (pl rfl) (by have e := zTypeAt_ok _ foq fnq fcq toq tnq tcq zq p (hatq.below B0) hzin.1 hzin.2; rw [htq] at e; exact e) ?_; clear f A; rintro _ W4 ⟨rfl, hb3⟩; refine ⟨_, rfl, ?_⟩; intro A f; replace B0 := Below.next B0 hb3; replace rhbk := row_next rhbk hb3
  refine l_do f rfl rfl rfl (y_move rfl rfl) ?_; clear f A; intro A f
  refine l_do f rfl rfl rfl (y_ext rfl rfl rfl) ?_; clear f A; intro A f
  refine l_do f rfl rfl rfl (y_ext rfl rfl rfl) ?_; clear f A; intro A f
  refine l_do f rfl rfl rfl (y_assign rfl rfl) ?_; clear f A; intro A f
  refine l_do f rfl rfl rfl (y_assign rfl rfl) ?_; clear f A; intro A f
  refine wpList_nil ?_
  refine x_tn ?_
  refine wp_seq ?_
  refine wp_seq ?_
  refine sx_list ?_
  refine l_do f rfl rfl rfl (y_move rfl rfl) ?_; clear f A; intro A f
  refine l_if _ f rfl rfl rfl (y_neq rfl rfl rfl) ?_ ?_
  · intro c5; exfalso; omega
  · clear f A; intro c5 A f
    refine wpList_nil ?_
    refine x_tn ?_
    refine x_condF f rfl ?_
    refine wp_skip ?_
    refine x_tn ?_
    refine wp_seq ?_
    refine sx_list ?_
    refine l_do f rfl rfl rfl (y_move rfl rfl) ?_; clear f A; intro A f
    refine l_do f rfl rfl rfl (y_move rfl rfl) ?_; clear f A; intro A f
    refine l_do f rfl rfl rfl (y_move rfl rfl) ?_; clear f A; intro A f
    refine l_do f rfl rfl rfl (y_build #[.int .i64 cpu, .int .i64 (zI : Nat), .int .i64 tI, .slice none 0 0] rfl rfl (by kernel_rfl)) ?_; clear f A; intro A f
    refine l_as (z := .agg #[.int .i64 0, .int .i64 0, .int .i64 0, .slice none 0 0]) f rfl rfl rfl rfl (by kernel_rfl) rfl rfl (fun _ => rfl) (fun _ => rfl) rfl (by intro u hu; simp [Value.cells] at hu; rcases hu with rfl | rfl | rfl | rfl <;> rfl) ?_; clear f A; intro b6 W7 eb6 hb8 rb6 A f
    dsimp only [Value.cells] at rb6
    have hpb6 := hb8
    have o_hbk_b6 : hbk < b6 := by have := row_lt rhbk; omega
    have z_B0_b6 := B0.size; rw [eb6] at z_B0_b6
    replace B0 := Below.next B0 hb8; replace rhbk := row_next rhbk hb8
    refine wpList_nil ?_
    refine x_tn ?_
    refine wp_seq ?_
    refine sx_list ?_
    refine l_do f rfl rfl rfl (y_assign rfl rfl) ?_; clear f A; intro A f
    refine wpList_nil ?_
    refine x_tn ?_
    refine wp_seq ?_
    refine wp_seq ?_
    refine sx_quiet (by kernel_rfl) (by kernel_rfl) ?_
    refine q_do f rfl rfl rfl (y_move rfl rfl) ?_; clear f A; intro A f
    refine q_do f rfl rfl rfl (y_nil rfl rfl) ?_; clear f A; intro A f
    refine q_do f rfl rfl rfl (y_loadN (vs := [_, _, _, _, _]) rfl rfl (ag rfl) rfl (rowls (rowq rhbk) _ _ ⟨rfl, rfl, rfl, rfl, rfl, trivial⟩)) ?_; clear f A; intro A f
    refine q_do f rfl rfl rfl (y_loadN (vs := [_, _, _, _]) rfl rfl (ag rfl) rfl (rowls (rowq rb6) _ _ ⟨rfl, rfl, rfl, rfl, trivial⟩)) ?_; clear f A; intro A f
    refine q_call f rfl rfl rfl (IsCall.mk' (cap := []) rfl rfl rfl) (pl rfl) (fun wx hx => (pListAt_c wx y ⟨cpu, (zI : Nat), tI, []⟩ (.slice none 0 0) (HY.at_.below (Below.next B0 hx)) hord hA).mono (fun e w1 h1 => ⟨h1.1, Below.next hx h1.2⟩)) ?_; clear f A; intro A f
    refine q_do f rfl rfl rfl (y_move rfl rfl) ?_; clear f A; intro A f
    refine q_do f rfl rfl rfl (y_ext rfl rfl rfl) ?_; clear f A; intro A f
    refine q_do f rfl rfl rfl (y_ext rfl rfl rfl) ?_; clear f A; intro A f
    refine q_do f rfl rfl rfl (y_assign rfl rfl) ?_; clear f A; intro A f
    skip
    refine q_do f rfl rfl rfl (y_assign rfl rfl) ?_; clear f A; intro A f
    refine wpQuiet_nil ?_; intro W10 hb9; replace B0 := Below.next B0 hb9; replace rhbk := row_next rhbk hb9; replace rb6 := row_next rb6 hb9
    refine x_tn ?_
    refine wp_seq ?_
    refine sx_list ?_
    refine l_do f rfl rfl rfl (y_move rfl rfl) ?_; clear f A; intro A f
    refine wpList_nil ?_
    refine x_tn ?_
    refine x_condF f rfl ?_
    refine wp_skip ?_
    refine x_tn ?_
    refine wp_seq ?_
    refine sx_list ?_
    refine l_do f rfl rfl rfl (y_move rfl rfl) ?_; clear f A; intro A f
    refine l_do f rfl rfl rfl (y_move rfl rfl) ?_; clear f A; intro A f
    obtain ⟨gb, hgb⟩ : ∃ g, g = W10.heap.size := ⟨_, rfl⟩
    refine l_opR (R := fun v W => v = .slice (some ⟨gb, 0, none⟩) 1 1 ∧ Below W10.heap.size W10 W ∧ W.heap[gb]? = some (.cells #[.int .i64 p] 3 (0, 0))) f rfl rfl rfl ⟨_, _, bs_exec f rfl rfl (bs_int1 _ _), by rw [hgb], (Below.refl _ _).alloc (Nat.le_refl _) _, by rw [hgb]; show (Array.push _ _)[_]? = _; rw [Array.getElem?_push, if_pos rfl]⟩ ?_
    clear f A
    rintro _ W11 ⟨rfl, hb12, rgb⟩ A f
    replace B0 := Below.next B0 hb12; replace rhbk := row_next rhbk hb12; replace rb6 := row_next rb6 hb12
    obtain ⟨s9, hs9⟩ : ∃ n, n = W11.heap.size := ⟨_, rfl⟩
    have hsw := B0.size
    have l9_hbk := row_lt rhbk
    have l9_b6 := row_lt rb6
    refine l_opR (R := fun v W => ∃ gp cp, v = .slice (some ⟨gp, 0, none⟩) (0 + 1) cp ∧ W.ownsRow s9 3 1 (.slice (some ⟨gp, 0, none⟩) (0 + 1) cp) (0 + 1) (vals ([] ++ [p])) ∧ Below W11.heap.size W11 W ∧ s9 ≤ gp) f rfl rfl rfl (by obtain ⟨g1, c1, W1, h1, h2, h3, h4⟩ := app1_run W11 _ none 0 [] p gb (Nums.nil _) (by omega) rgb (fun _ => rfl); rw [hs9]; exact ⟨_, W1, append_exec f rfl rfl rfl h1, g1, c1, rfl, h2, h3, h4⟩) ?_
    clear f A
    rintro _ W13 ⟨gp, cp, rfl, own9, hb14, hgp⟩ A f
    replace B0 := Below.next B0 hb14; replace rhbk := row_next rhbk hb14; replace rb6 := row_next rb6 hb14
    have hgw9 : gp < W13.heap.size := (owns_blk own9 _ rfl).2.1
    have hc9 := owns_cap own9
    refine l_do f rfl rfl rfl (y_assign rfl rfl) ?_; clear f A; intro A f
    refine wpList_nil ?_
    refine x_tn ?_
    refine wp_seq ?_
    refine wp_seq ?_
    refine sx_list ?_
    refine l_do f rfl rfl rfl (y_move rfl rfl) ?_; clear f A; intro A f
    refine l_do f rfl rfl rfl (y_len rfl rfl (sl rfl)) ?_; clear f A; intro A f
    refine l_if _ f rfl rfl rfl (y_gtr rfl rfl rfl) ?_ ?_
    · intro c15; exfalso; omega
    · clear f A; intro c15 A f
      refine wpList_nil ?_
      refine x_tn ?_
      refine x_condF f rfl ?_
      refine wp_skip ?_
      refine x_tn ?_
      refine wp_seq ?_
      refine sx_list ?_
      refine l_do f rfl rfl rfl (y_move rfl rfl) ?_; clear f A; intro A f
      refine l_do f rfl rfl rfl (y_loadN (vs := [_, _, _, _]) rfl rfl (ag rfl) rfl (rowls (rowq rb6) _ _ ⟨rfl, rfl, rfl, rfl, trivial⟩)) ?_; clear f A; intro A f
      refine l_do f rfl rfl rfl (y_move rfl rfl) ?_; clear f A; intro A f
      have hlz : 0 < y.zs.length := by have := HY.at_.zones.len; omega
      have hAt := HY.at_.below B0
      replace ol := owns_below ol B0 (Nat.le_refl _)
      have hex := Ex.of_below (P := fun k => k = gz ∨ k = gl ∨ k = hbk) B0
      have hsz := B0.size
      have al2 := al
      have ah2 := ah
      have hN5 : Nums W13 (some ⟨gp, 0, none⟩) (0 + 1) ([] ++ [p]) := nums_of_owns own9 (by omega)
      refine l_call f rfl rfl rfl (IsCall.mk' (cap := []) rfl rfl rfl) (pl rfl) (pSetList_f _ B gl hbk y ⟨cpu, (zI : Nat), tI, ([] ++ [p])⟩ (.slice none 0 0) (some ⟨gp, 0, none⟩) (0 + 1) cp i rhbk ol el hAt al2 ah2 hhl (by omega) hord hN5 (fun _ a ha => by cases ha; dsimp only; omega) (by omega) (by show y.ln ≤ 300; omega) hA) ?_
      clear f A
      rintro _ W16 ⟨rfl, ls2, lo2, ln2, lc2, rh2, hAt2, hls2, hbu, hlo2, hmem2⟩
      refine ⟨_, rfl, ?_⟩
      intro A f
      refine wpList_nil ?_
      refine x_tn ?_
      refine wp_seq ?_
      refine sx_list ?_
      refine l_do f rfl rfl rfl (y_assign rfl rfl) ?_; clear f A; intro A f
      refine wpList_nil ?_
      refine x_tn ?_
      refine wp_ret ?_
      refine x_ret1 f rfl rfl ?_
      -- return 0: ¬c5@33 ¬c15@62
      have hL : lsPages y.hp.lists ⟨cpu, (zI : Nat), tI, []⟩ = [] := by rw [lsPages_at hrp hA]; rfl
      refine ⟨rfl, y.withL ls2 lo2 ln2 lc2, rh2, hAt2, ?_, hex.trans (Ex.of_bu2 hbu (.inr (.inr rfl)) (.inr (.inl rfl))), fun b hb hbl ha => ?_, rfl⟩
      · unfold keepH
        rw [hzI, htI, hL, if_neg (by rw [List.length_append]; simp only [List.length_cons, List.length_nil]; omega)]
        show ({ y.hp with lists := ls2.map (·.l) } : Hp) = _
        rw [hls2]
      · exact away_withL ha (fun _ a h => by rcases hlo2 a h with e | e <;> omega) (fun l hl => by rcases hmem2 l hl with h | rfl; (exact .inl h); exact .inr (fun a h => by cases h; dsimp only; omega))

set_option maxRecDepth 10000 in
set_option maxHeartbeats 4000000 in
theorem pKeep_t (w : World) (B gz gl hbk : Nat) (y : Hx) (cpu p : Int) (i zI : Nat) (tI : Int) (rhbk : w.heap[hbk]? = some (.cells #[.slice y.zo y.zn y.zc, .slice y.mo y.mn y.mc, .int .i64 y.cpus, .slice y.lo y.ln y.lc, .slice y.vo y.vn y.vc] 28 (0, 0))) (HY : HZ w B gz y) (ol : w.ownsRow B 57 4 (.slice y.lo y.ln y.lc) y.ln (c4 (y.ls.map Lc.q))) (el : ∀ a, y.lo = some a → a.block = gl) (al : AwayL gl y) (ah : AwayL hbk y)
    (hhz : hbk ≠ gz) (hhl : hbk ≠ gl) (hzl : gz ≠ gl) (hgw : gl < w.heap.size) (hzw : gz < w.heap.size) (hcap : ∀ l ∈ y.ls, l.pc = l.pn) (hM : HMid y.hp) (hp : 0 ≤ p ∧ p < 256) (hB : B ≤ w.heap.size) (hzI : zIdx y.hp p = zI) (htI : typeZ (y.hp.zones.getD zI ⟨0, 0, [], []⟩) p = tI) (hA : AtL y.hp.lists ⟨cpu, (zI : Nat), tI, []⟩ i true) :
    Calls Try.prog 71 #[.pointer (some ⟨hbk, 0, none⟩), .int .i64 cpu, .int .i64 p] w fun e w' => e = .returned (.int .i64 0) ∧ ∃ y2 : Hx, w'.heap[hbk]? = some (.cells #[.slice y2.zo y2.zn y2.zc, .slice y2.mo y2.mn y2.mc, .int .i64 y2.cpus, .slice y2.lo y2.ln y2.lc, .slice y2.vo y2.vn y2.vc] 28 (0, 0)) ∧ y2.At w' ∧ y2.hp = keepH y.hp cpu p ∧ Ex (fun k => k = gz ∨ k = gl ∨ k = hbk) w w' ∧ (∀ b, b < w.heap.size → b ≠ gl → Away b y → Away b y2) ∧ y2.zo = y.zo := by
  have hlw := row_lt rhbk
  have hll : y.hp.lists.length = y.ln := by show (y.ls.map _).length = _; rw [List.length_map]; exact HY.at_.lists.len
  have hfew := lists_few hM.ls hM.cpus
  have hzn : y.zn = 2 := by have e : y.hp.zones.length = y.zs.length := (by show (y.zs.map _).length = _; rw [List.length_map]); have := hM.zs.n; have := HY.at_.zones.len; omega
  have hzlt : zI < 2 := by rw [← hzI]; exact zIdx_lt _ _
  have hord : RiseL y.ls := fun k h0 h1 => by have := hM.ls.ord k h0 (by rw [hll]; have := HY.at_.lists.len; omega); rw [show y.hp.lists = y.ls.map (·.l) from rfl, getD_l, getD_l] at this; exact this
  have hrp : RiseP y.hp.lists := riseP_of hord
  have hib : i < y.ln := by have := (hA.2.2.2.1 rfl).1; omega
  have B0 := Below.refl w.heap.size w
  refine sx_enter (args := [_, _, _]) 76 Try.func71 rfl rfl rfl ?_
  intro A f
  refine wp_seq ?_
  refine sx_list ?_
  refine l_do f rfl rfl rfl (y_assign rfl rfl) ?_; clear f A; intro A f
  refine wpList_nil ?_
  refine x_tn ?_
  refine wp_seq ?_
  refine sx_list ?_
  refine l_do f rfl rfl rfl (y_move rfl rfl) ?_; clear f A; intro A f
  refine l_do f rfl rfl rfl (y_nil rfl rfl) ?_; clear f A; intro A f
  refine l_do f rfl rfl rfl (y_loadN (vs := [_, _, _, _, _]) rfl rfl (ag rfl) rfl (rowls (rowq rhbk) _ _ ⟨rfl, rfl, rfl, rfl, rfl, trivial⟩)) ?_; clear f A; intro A f
  refine l_do f rfl rfl rfl (y_move rfl rfl) ?_; clear f A; intro A f
  refine l_call f rfl rfl rfl (IsCall.mk' (cap := []) rfl rfl rfl) (pl rfl) (by have e := pZoneOf_c _ y p (HY.at_.below B0) hzn; rw [hzI] at e; exact e) ?_; clear f A; rintro _ W2 ⟨rfl, hb1⟩; refine ⟨_, rfl, ?_⟩; intro A f; replace B0 := Below.next B0 hb1; replace rhbk := row_next rhbk hb1
  refine l_do f rfl rfl rfl (y_assign rfl rfl) ?_; clear f A; intro A f
  refine wpList_nil ?_
  refine x_tn ?_
  refine wp_seq ?_
  refine sx_list ?_
  refine l_do f rfl rfl rfl (y_move rfl rfl) ?_; clear f A; intro A f
  refine l_do f rfl rfl rfl (y_nil rfl rfl) ?_; clear f A; intro A f
  refine l_do f rfl rfl rfl (y_field rfl rfl (fo rfl)) ?_; clear f A; intro A f
  refine l_do f rfl rfl rfl (y_load1 rfl rfl (ag rfl) (rowl (rowq rhbk) rfl)) ?_; clear f A; intro A f
  refine l_do f rfl rfl rfl (y_move rfl rfl) ?_; clear f A; intro A f
  obtain ⟨gq, oq, zq, foq, fnq, fcq, toq, tnq, tcq, haq, c0q, c1q, c2q, c3q, hatq, hXq⟩ := HY.at_.zones.at (zI) (by omega)
  replace c0q := St.of c0q; replace c1q := St.of c1q; replace c2q := St.of c2q; replace c3q := St.of c3q
  have hqe : y.hp.zones.getD zI ⟨0, 0, [], []⟩ = zq := by rw [hp_zone, hXq.out]
  have hzin := zone_in hM.zs hp.1 hp.2
  rw [hzI, hqe] at hzin
  have htq : typeZ zq p = tI := by rw [← hqe]; exact htI
  refine l_do f rfl rfl rfl (y_index rfl rfl (by first | rfl | assumption) rfl (es rfl) (by omega)) ?_; clear f A; intro A f
  refine l_do f rfl rfl rfl (y_loadN (vs := [_, _, _, _]) rfl rfl (ag rfl) rfl ⟨(by first | assumption | exact St.q c0q B0 | exact St.q c1q B0 | exact St.q c2q B0 | exact St.q c3q B0), (by first | assumption | exact St.q c0q B0 | exact St.q c1q B0 | exact St.q c2q B0 | exact St.q c3q B0), (by first | assumption | exact St.q c0q B0 | exact St.q c1q B0 | exact St.q c2q B0 | exact St.q c3q B0), (by first | assumption | exact St.q c0q B0 | exact St.q c1q B0 | exact St.q c2q B0 | exact St.q c3q B0), trivial⟩) ?_; clear f A; intro A f
  refine l_do f rfl rfl rfl (y_move rfl rfl) ?_; clear f A; intro A f
  refine l_call f rfl rfl rfl (IsCall.mk' (cap := []) rfl rfl rfl) (pl rfl) (by have e := zTypeAt_ok _ foq fnq fcq toq tnq tcq zq p (hatq.below B0) hzin.1 hzin.2; rw [htq] at e; exact e) ?_; clear f A; rintro _ W4 ⟨rfl, hb3⟩; refine ⟨_, rfl, ?_⟩; intro A f; replace B0 := Below.next B0 hb3; replace rhbk := row_next rhbk hb3
  refine l_do f rfl rfl rfl (y_move rfl rfl) ?_; clear f A; intro A f
  refine l_do f rfl rfl rfl (y_ext rfl rfl rfl) ?_; clear f A; intro A f
  refine l_do f rfl rfl rfl (y_ext rfl rfl rfl) ?_; clear f A; intro A f
  refine l_do f rfl rfl rfl (y_assign rfl rfl) ?_; clear f A; intro A f
  refine l_do f rfl rfl rfl (y_assign rfl rfl) ?_; clear f A; intro A f
  refine wpList_nil ?_
  refine x_tn ?_
  refine wp_seq ?_
  refine wp_seq ?_
  refine sx_list ?_
  refine l_do f rfl rfl rfl (y_move rfl rfl) ?_; clear f A; intro A f
  refine l_if _ f rfl rfl rfl (y_neq rfl rfl rfl) ?_ ?_
  · intro c5; exfalso; omega
  · clear f A; intro c5 A f
    refine wpList_nil ?_
    refine x_tn ?_
    refine x_condF f rfl ?_
    refine wp_skip ?_
    refine x_tn ?_
    refine wp_seq ?_
    refine sx_list ?_
    refine l_do f rfl rfl rfl (y_move rfl rfl) ?_; clear f A; intro A f
    refine l_do f rfl rfl rfl (y_move rfl rfl) ?_; clear f A; intro A f
    refine l_do f rfl rfl rfl (y_move rfl rfl) ?_; clear f A; intro A f
    refine l_do f rfl rfl rfl (y_build #[.int .i64 cpu, .int .i64 (zI : Nat), .int .i64 tI, .slice none 0 0] rfl rfl (by kernel_rfl)) ?_; clear f A; intro A f
    refine l_as (z := .agg #[.int .i64 0, .int .i64 0, .int .i64 0, .slice none 0 0]) f rfl rfl rfl rfl (by kernel_rfl) rfl rfl (fun _ => rfl) (fun _ => rfl) rfl (by intro u hu; simp [Value.cells] at hu; rcases hu with rfl | rfl | rfl | rfl <;> rfl) ?_; clear f A; intro b6 W7 eb6 hb8 rb6 A f
    dsimp only [Value.cells] at rb6
    have hpb6 := hb8
    have o_hbk_b6 : hbk < b6 := by have := row_lt rhbk; omega
    have z_B0_b6 := B0.size; rw [eb6] at z_B0_b6
    replace B0 := Below.next B0 hb8; replace rhbk := row_next rhbk hb8
    refine wpList_nil ?_
    refine x_tn ?_
    refine wp_seq ?_
    refine sx_list ?_
    refine l_do f rfl rfl rfl (y_assign rfl rfl) ?_; clear f A; intro A f
    refine wpList_nil ?_
    refine x_tn ?_
    refine wp_seq ?_
    refine wp_seq ?_
    refine sx_quiet (by kernel_rfl) (by kernel_rfl) ?_
    refine q_do f rfl rfl rfl (y_move rfl rfl) ?_; clear f A; intro A f
    refine q_do f rfl rfl rfl (y_nil rfl rfl) ?_; clear f A; intro A f
    refine q_do f rfl rfl rfl (y_loadN (vs := [_, _, _, _, _]) rfl rfl (ag rfl) rfl (rowls (rowq rhbk) _ _ ⟨rfl, rfl, rfl, rfl, rfl, trivial⟩)) ?_; clear f A; intro A f
    refine q_do f rfl rfl rfl (y_loadN (vs := [_, _, _, _]) rfl rfl (ag rfl) rfl (rowls (rowq rb6) _ _ ⟨rfl, rfl, rfl, rfl, trivial⟩)) ?_; clear f A; intro A f
    refine q_call f rfl rfl rfl (IsCall.mk' (cap := []) rfl rfl rfl) (pl rfl) (fun wx hx => (pListAt_c wx y ⟨cpu, (zI : Nat), tI, []⟩ (.slice none 0 0) (HY.at_.below (Below.next B0 hx)) hord hA).mono (fun e w1 h1 => ⟨h1.1, Below.next hx h1.2⟩)) ?_; clear f A; intro A f
    refine q_do f rfl rfl rfl (y_move rfl rfl) ?_; clear f A; intro A f
    refine q_do f rfl rfl rfl (y_ext rfl rfl rfl) ?_; clear f A; intro A f
    refine q_do f rfl rfl rfl (y_ext rfl rfl rfl) ?_; clear f A; intro A f
    refine q_do f rfl rfl rfl (y_assign rfl rfl) ?_; clear f A; intro A f
    skip
    refine q_do f rfl rfl rfl (y_assign rfl rfl) ?_; clear f A; intro A f
    refine wpQuiet_nil ?_; intro W10 hb9; replace B0 := Below.next B0 hb9; replace rhbk := row_next rhbk hb9; replace rb6 := row_next rb6 hb9
    refine x_tn ?_
    refine wp_seq ?_
    refine sx_list ?_
    refine l_do f rfl rfl rfl (y_move rfl rfl) ?_; clear f A; intro A f
    refine wpList_nil ?_
    refine x_tn ?_
    refine x_condT f rfl ?_
    refine sx_list ?_
    refine l_do f rfl rfl rfl (y_move rfl rfl) ?_; clear f A; intro A f
    refine l_do f rfl rfl rfl (y_nil rfl rfl) ?_; clear f A; intro A f
    refine l_do f rfl rfl rfl (y_field rfl rfl (fo rfl)) ?_; clear f A; intro A f
    refine l_do f rfl rfl rfl (y_load1 rfl rfl (ag rfl) (rowl (rowq rhbk) rfl)) ?_; clear f A; intro A f
    refine l_do f rfl rfl rfl (y_move rfl rfl) ?_; clear f A; intro A f
    obtain ⟨gk, ok, lck, lzk, ltk, lpk, pok, pnk, pck, hak, c0k, c1k, c2k, c3k, hatk, hXk⟩ := HY.at_.lists.at (i) (by omega)
    replace c0k := St.of c0k; replace c1k := St.of c1k; replace c2k := St.of c2k; replace c3k := St.of c3k
    have hke : y.ls.getD i .zero = ⟨⟨lck, lzk, ltk, lpk⟩, pok, pnk, pck⟩ := hXk.out
    have hmk : (⟨⟨lck, lzk, ltk, lpk⟩, pok, pnk, pck⟩ : Lc) ∈ y.ls := by rw [← hke]; exact getD_mem (by have := HY.at_.lists.len; omega)
    obtain rfl : pnk = pck := (hcap _ hmk).symm
    have hmL : (⟨lck, lzk, ltk, lpk⟩ : Ls) ∈ y.hp.lists := List.mem_map.2 ⟨_, hmk, rfl⟩
    have hk8 : pnk ≤ 8 := by have h1 : lpk.length ≤ 8 := (lss_mem hM.ls hmL).n.2; have := hatk.len; omega
    have hkl := hatk.len
    refine l_do f rfl rfl rfl (y_index rfl rfl (by first | rfl | assumption) rfl (es rfl) (by omega)) ?_; clear f A; intro A f
    refine l_do f rfl rfl rfl (y_field rfl rfl (fo rfl)) ?_; clear f A; intro A f
    refine l_do f rfl rfl rfl (y_load1 rfl rfl (ag rfl) (by first | assumption | exact St.q c0q B0 | exact St.q c1q B0 | exact St.q c2q B0 | exact St.q c3q B0 | exact St.q c0k B0 | exact St.q c1k B0 | exact St.q c2k B0 | exact St.q c3k B0)) ?_; clear f A; intro A f
    refine l_do f rfl rfl rfl (y_assign rfl rfl) ?_; clear f A; intro A f
    refine wpList_nil ?_
    refine x_tn ?_
    refine wp_seq ?_
    refine sx_list ?_
    refine l_do f rfl rfl rfl (y_move rfl rfl) ?_; clear f A; intro A f
    refine l_do f rfl rfl rfl (y_move rfl rfl) ?_; clear f A; intro A f
    obtain ⟨gb, hgb⟩ : ∃ g, g = W10.heap.size := ⟨_, rfl⟩
    refine l_opR (R := fun v W => v = .slice (some ⟨gb, 0, none⟩) 1 1 ∧ Below W10.heap.size W10 W ∧ W.heap[gb]? = some (.cells #[.int .i64 p] 3 (0, 0))) f rfl rfl rfl ⟨_, _, bs_exec f rfl rfl (bs_int1 _ _), by rw [hgb], (Below.refl _ _).alloc (Nat.le_refl _) _, by rw [hgb]; show (Array.push _ _)[_]? = _; rw [Array.getElem?_push, if_pos rfl]⟩ ?_
    clear f A
    rintro _ W11 ⟨rfl, hb12, rgb⟩ A f
    replace B0 := Below.next B0 hb12; replace rhbk := row_next rhbk hb12; replace rb6 := row_next rb6 hb12
    obtain ⟨s9, hs9⟩ : ∃ n, n = W11.heap.size := ⟨_, rfl⟩
    have hsw := B0.size
    have l9_hbk := row_lt rhbk
    have l9_b6 := row_lt rb6
    refine l_opR (R := fun v W => ∃ gp cp, v = .slice (some ⟨gp, 0, none⟩) (pnk + 1) cp ∧ W.ownsRow s9 3 1 (.slice (some ⟨gp, 0, none⟩) (pnk + 1) cp) (pnk + 1) (vals (lpk ++ [p])) ∧ Below W11.heap.size W11 W ∧ s9 ≤ gp) f rfl rfl rfl (by obtain ⟨g1, c1, W1, h1, h2, h3, h4⟩ := app1_run W11 _ pok pnk lpk p gb (hatk.below B0) (by omega) rgb (fun e => nums_nil (by rw [← e]; exact hatk)); rw [hs9]; exact ⟨_, W1, append_exec f rfl rfl rfl h1, g1, c1, rfl, h2, h3, h4⟩) ?_
    clear f A
    rintro _ W13 ⟨gp, cp, rfl, own9, hb14, hgp⟩ A f
    replace B0 := Below.next B0 hb14; replace rhbk := row_next rhbk hb14; replace rb6 := row_next rb6 hb14
    have hgw9 : gp < W13.heap.size := (owns_blk own9 _ rfl).2.1
    have hc9 := owns_cap own9
    refine l_do f rfl rfl rfl (y_assign rfl rfl) ?_; clear f A; intro A f
    refine wpList_nil ?_
    refine x_tn ?_
    refine wp_seq ?_
    refine wp_seq ?_
    refine sx_list ?_
    refine l_do f rfl rfl rfl (y_move rfl rfl) ?_; clear f A; intro A f
    refine l_do f rfl rfl rfl (y_len rfl rfl (sl rfl)) ?_; clear f A; intro A f
    refine l_if _ f rfl rfl rfl (y_gtr rfl rfl rfl) ?_ ?_
    · clear f A; intro c15 A f
      refine wpList_nil ?_
      refine x_tn ?_
      refine x_condT f rfl ?_
      refine wp_seq ?_
      refine wp_seq ?_
      refine sx_list ?_
      refine l_do f rfl rfl rfl (y_move rfl rfl) ?_; clear f A; intro A f
      refine l_do f rfl rfl rfl (y_move rfl rfl) ?_; clear f A; intro A f
      refine l_do f rfl rfl rfl (y_sliceHi (H := 4) rfl rfl (by omega)) ?_; clear f A; intro A f
      obtain rfl : pnk = 8 := by omega
      have hlz : 0 < y.zs.length := by have := HY.at_.zones.len; omega
      have e4 : (lpk ++ [p]).take 4 = lpk.take 4 := by rw [List.take_append_of_le_length (by omega)]
      have hcan : CanBacks y.hp ((lpk ++ [p]).take 4) := by rw [e4]; exact (hM.four hmL 4).1
      have hN4 : Nums W13 (some ⟨gp, 0, none⟩) 4 ((lpk ++ [p]).take 4) := nums_take (nums_of_owns own9 (by omega)) (by omega)
      refine l_call f rfl rfl rfl (IsCall.mk' (cap := []) rfl rfl rfl) (pl rfl) (pBackAllF_ok _ B gz hbk y (some ⟨gp, 0, none⟩) 4 cp _ rhbk (HY.below B0) hhz hN4 (fun _ a ha => by cases ha; dsimp only; omega) hcan) ?_
      clear f A
      rintro _ W16 ⟨rfl, zs, hzs, HY2, hbt, haf⟩
      refine ⟨_, rfl, ?_⟩
      intro A f
      have lb10 := row_lt rb6
      replace rhbk := But.row hbt rhbk hhz
      replace rb6 := But.row hbt rb6 (by omega)
      replace own9 := owns_butN own9 hbt (fun a ha => by cases ha; dsimp only; omega)
      replace ol := owns_butN (owns_below ol B0 (Nat.le_refl _)) hbt (fun a ha => by have := el a ha; omega)
      have hex := (Ex.of_below (P := fun k => k = gz ∨ k = gl ∨ k = hbk) B0).trans (Ex.of_but hbt (.inl rfl))
      have hsB := B0.size
      have hsb := hbt.size
      have hr2 := HRest.of HY2.at_
      have af9 : AwayL gp (y.withZ zs) := awayL_withZ (awayL_old HY.at_ (by omega)) (haf gp hgw9 (awayF_old HY.at_ (by omega))) hlz
      have al2 : AwayL gl (y.withZ zs) := awayL_withZ al (haf gl (by omega) al.toF) hlz
      have ah2 : AwayL hbk (y.withZ zs) := awayL_withZ ah (haf hbk (by have := row_lt rhbk; omega) ah.toF) hlz
      refine l_do f rfl rfl rfl (y_assign rfl rfl) ?_; clear f A; intro A f
      refine wpList_nil ?_
      refine x_tn ?_
      refine wp_seq ?_
      refine sx_list ?_
      refine l_do f rfl rfl rfl (y_move rfl rfl) ?_; clear f A; intro A f
      refine l_if _ f rfl rfl rfl (y_neq rfl rfl rfl) ?_ ?_
      · intro c17; exfalso; omega
      · clear f A; intro c17 A f
        refine wpList_nil ?_
        refine x_tn ?_
        refine x_condF f rfl ?_
        refine wp_skip ?_
        refine x_tn ?_
        refine sx_list ?_
        refine l_do f rfl rfl rfl (y_move rfl rfl) ?_; clear f A; intro A f
        refine l_call f rfl rfl rfl (IsCall.mk' (cap := []) rfl rfl rfl) (pl rfl) (iDel4_any _ s9 gp cp (lpk ++ [p]) own9) ?_
        clear f A
        rintro _ W18 ⟨rfl, own5, hb19⟩
        refine ⟨_, rfl, ?_⟩
        intro A f
        replace rhbk := But.row hb19 rhbk (by omega)
        replace rb6 := But.row hb19 rb6 (by omega)
        replace ol := owns_butN ol hb19 (fun a ha => by have := el a ha; omega)
        replace hex := hex.new hb19 (by omega)
        replace hr2 := hr2.but af9 hb19
        refine l_do f rfl rfl rfl (y_assign rfl rfl) ?_; clear f A; intro A f
        refine wpList_nil ?_
        refine x_tn ?_
        refine wp_seq ?_
        refine sx_list ?_
        refine l_do f rfl rfl rfl (y_move rfl rfl) ?_; clear f A; intro A f
        refine l_do f rfl rfl rfl (y_loadN (vs := [_, _, _, _]) rfl rfl (ag rfl) rfl (rowls (rowq rb6) _ _ ⟨rfl, rfl, rfl, rfl, trivial⟩)) ?_; clear f A; intro A f
        refine l_do f rfl rfl rfl (y_move rfl rfl) ?_; clear f A; intro A f
        have hAt : (y.withZ zs).At W18 := at_withL hr2 ol HY.at_.lists.reach hr2.pages
        have hsz := hex.size
        have hN5 : Nums W18 (some ⟨gp, 0, none⟩) 5 ((lpk ++ [p]).drop 4) := nums_of_owns own5 (by omega)
        refine l_call f rfl rfl rfl (IsCall.mk' (cap := []) rfl rfl rfl) (pl rfl) (pSetList_t _ B gl hbk (y.withZ zs) ⟨cpu, (zI : Nat), tI, ((lpk ++ [p]).drop 4)⟩ (.slice none 0 0) (some ⟨gp, 0, none⟩) 5 cp i rhbk ol el hAt al2 ah2 hhl (by omega) hord hN5 (fun _ a ha => by cases ha; dsimp only; omega) (by omega) (by show y.ln ≤ 300; omega) (by show i < y.ln; omega) hA) ?_
        clear f A
        rintro _ W20 ⟨rfl, ls2, lo2, ln2, lc2, rh2, hAt2, hls2, hbu, hlo2, hmem2⟩
        refine ⟨_, rfl, ?_⟩
        intro A f
        refine wpList_nil ?_
        refine x_tn ?_
        refine wp_seq ?_
        refine sx_list ?_
        refine l_do f rfl rfl rfl (y_assign rfl rfl) ?_; clear f A; intro A f
        refine wpList_nil ?_
        refine x_tn ?_
        refine wp_ret ?_
        refine x_ret1 f rfl rfl ?_
        -- return 0: ¬c5@33 c15@62 ¬c17@68
        have hL : lsPages y.hp.lists ⟨cpu, (zI : Nat), tI, []⟩ = lpk := by rw [lsPages_at hrp hA]; rw [if_pos rfl]; show ((List.map (fun x : Lc => x.l) y.ls).getD i Ls.zero).pages = lpk; rw [getD_l, hke]
        refine ⟨rfl, (y.withZ zs).withL ls2 lo2 ln2 lc2, rh2, hAt2, ?_, hex.trans (Ex.of_bu2 hbu (.inr (.inr rfl)) (.inr (.inl rfl))), fun b hb hbl ha => ?_, rfl⟩
        · unfold keepH
          rw [hzI, htI, hL, if_pos (by rw [List.length_append]; simp only [List.length_cons, List.length_nil]; omega)]
          show ({ (y.withZ zs).hp with lists := ls2.map (·.l) } : Hp) = _
          rw [hzs, hls2]
          rfl
        · exact away_withL (awayF_away ha (haf b (by omega) ⟨ha.f, ha.t⟩)) (fun _ a h => by rcases hlo2 a h with e | e <;> omega) (fun l hl => by rcases hmem2 l hl with h | rfl; (exact .inl h); exact .inr (fun a h => by cases h; dsimp only; omega))
    · clear f A; intro c15 A f
      refine wpList_nil ?_
      refine x_tn ?_
      refine x_condF f rfl ?_
      refine wp_skip ?_
      refine x_tn ?_
      refine wp_seq ?_
      refine sx_list ?_
      refine l_do f rfl rfl rfl (y_move rfl rfl) ?_; clear f A; intro A f
      refine l_do f rfl rfl rfl (y_loadN (vs := [_, _, _, _]) rfl rfl (ag rfl) rfl (rowls (rowq rb6) _ _ ⟨rfl, rfl, rfl, rfl, trivial⟩)) ?_; clear f A; intro A f
      refine l_do f rfl rfl rfl (y_move rfl rfl) ?_; clear f A; intro A f
      have hlz : 0 < y.zs.length := by have := HY.at_.zones.len; omega
      have hAt := HY.at_.below B0
      replace ol := owns_below ol B0 (Nat.le_refl _)
      have hex := Ex.of_below (P := fun k => k = gz ∨ k = gl ∨ k = hbk) B0
      have hsz := B0.size
      have al2 := al
      have ah2 := ah
      have hN5 : Nums W13 (some ⟨gp, 0, none⟩) (pnk + 1) (lpk ++ [p]) := nums_of_owns own9 (by omega)
      refine l_call f rfl rfl rfl (IsCall.mk' (cap := []) rfl rfl rfl) (pl rfl) (pSetList_t _ B gl hbk y ⟨cpu, (zI : Nat), tI, (lpk ++ [p])⟩ (.slice none 0 0) (some ⟨gp, 0, none⟩) (pnk + 1) cp i rhbk ol el hAt al2 ah2 hhl (by omega) hord hN5 (fun _ a ha => by cases ha; dsimp only; omega) (by omega) (by show y.ln ≤ 300; omega) (by show i < y.ln; omega) hA) ?_
      clear f A
      rintro _ W21 ⟨rfl, ls2, lo2, ln2, lc2, rh2, hAt2, hls2, hbu, hlo2, hmem2⟩
      refine ⟨_, rfl, ?_⟩
      intro A f
      refine wpList_nil ?_
      refine x_tn ?_
      refine wp_seq ?_
      refine sx_list ?_
      refine l_do f rfl rfl rfl (y_assign rfl rfl) ?_; clear f A; intro A f
      refine wpList_nil ?_
      refine x_tn ?_
      refine wp_ret ?_
      refine x_ret1 f rfl rfl ?_
      -- return 1: ¬c5@33 ¬c15@62
      have hL : lsPages y.hp.lists ⟨cpu, (zI : Nat), tI, []⟩ = lpk := by rw [lsPages_at hrp hA]; rw [if_pos rfl]; show ((List.map (fun x : Lc => x.l) y.ls).getD i Ls.zero).pages = lpk; rw [getD_l, hke]
      refine ⟨rfl, y.withL ls2 lo2 ln2 lc2, rh2, hAt2, ?_, hex.trans (Ex.of_bu2 hbu (.inr (.inr rfl)) (.inr (.inl rfl))), fun b hb hbl ha => ?_, rfl⟩
      · unfold keepH
        rw [hzI, htI, hL, if_neg (by rw [List.length_append]; simp only [List.length_cons, List.length_nil]; omega)]
        show ({ y.hp with lists := ls2.map (·.l) } : Hp) = _
        rw [hls2]
      · exact away_withL ha (fun _ a h => by rcases hlo2 a h with e | e <;> omega) (fun l hl => by rcases hmem2 l hl with h | rfl; (exact .inl h); exact .inr (fun a h => by cases h; dsimp only; omega))

end Go.Proofs.Ytbjlbmofdnkmiaa

/-
  OWN TEXT. Contracts of the code: pages.release (written by sxfree.py).
-/
namespace Go.Proofs.Ytbjlbmofdnkmiaa
open Go Go.RowKit Go.Proofs.Ytbjlbmofdnkmiaa.Kit

theorem rise_of {y : Hx} (h : LssOk y.hp) : RiseL y.ls := fun k h0 h1 => by
  have e : y.hp.lists.length = y.ls.length := by show (y.ls.map _).length = _; rw [List.length_map]
  have := h.ord k h0 (by omega)
  rw [show y.hp.lists = y.ls.map (·.l) from rfl, getD_l, getD_l] at this
  exact this
theorem pKeep_any (w : World) (B gz gl hbk : Nat) (y : Hx) (cpu p : Int) (rhbk : w.heap[hbk]? = some (.cells #[.slice y.zo y.zn y.zc, .slice y.mo y.mn y.mc, .int .i64 y.cpus, .slice y.lo y.ln y.lc, .slice y.vo y.vn y.vc] 28 (0, 0))) (HY : HZ w B gz y) (ol : w.ownsRow B 57 4 (.slice y.lo y.ln y.lc) y.ln (c4 (y.ls.map Lc.q))) (el : ∀ a, y.lo = some a → a.block = gl) (al : AwayL gl y) (ah : AwayL hbk y)
    (hhz : hbk ≠ gz) (hhl : hbk ≠ gl) (hzl : gz ≠ gl) (hgw : gl < w.heap.size) (hzw : gz < w.heap.size) (hcap : ∀ l ∈ y.ls, l.pc = l.pn) (hM : HMid y.hp) (hp : 0 ≤ p ∧ p < 256) (hB : B ≤ w.heap.size) :
    Calls Try.prog 71 #[.pointer (some ⟨hbk, 0, none⟩), .int .i64 cpu, .int .i64 p] w fun e w' => e = .returned (.int .i64 0) ∧ ∃ y2 : Hx, w'.heap[hbk]? = some (.cells #[.slice y2.zo y2.zn y2.zc, .slice y2.mo y2.mn y2.mc, .int .i64 y2.cpus, .slice y2.lo y2.ln y2.lc, .slice y2.vo y2.vn y2.vc] 28 (0, 0)) ∧ y2.At w' ∧ y2.hp = keepH y.hp cpu p ∧ Ex (fun k => k = gz ∨ k = gl ∨ k = hbk) w w' ∧ (∀ b, b < w.heap.size → b ≠ gl → Away b y → Away b y2) ∧ y2.zo = y.zo := by
  obtain ⟨i, b, hA⟩ := at_exists (riseP_of (rise_of hM.ls)) ⟨cpu, (zIdx y.hp p : Nat), typeZ (y.hp.zones.getD (zIdx y.hp p) ⟨0, 0, [], []⟩) p, []⟩
  cases b
  · exact pKeep_f w B gz gl hbk y cpu p i _ _ rhbk HY ol el al ah hhz hhl hzl hgw hzw hcap hM hp hB rfl rfl hA
  · exact pKeep_t w B gz gl hbk y cpu p i _ _ rhbk HY ol el al ah hhz hhl hzl hgw hzw hcap hM hp hB rfl rfl hA
/-- A block that is not away any more: plain. -/
def releaseH (H : Hp) (cpu : Int) (b : Bk) : Hp := if 0 < b.o then backH H b.a b.o else keepH H cpu b.a

set_option maxRecDepth 10000 in
set_option maxHeartbeats 4000000 in
theorem pRelease_ok (w : World) (B gz gl hbk : Nat) (y : Hx) (cpu a o t : Int) (rhbk : w.heap[hbk]? = some (.cells #[.slice y.zo y.zn y.zc, .slice y.mo y.mn y.mc, .int .i64 y.cpus, .slice y.lo y.ln y.lc, .slice y.vo y.vn y.vc] 28 (0, 0))) (HY : HZ w B gz y) (ol : w.ownsRow B 57 4 (.slice y.lo y.ln y.lc) y.ln (c4 (y.ls.map Lc.q))) (el : ∀ a, y.lo = some a → a.block = gl) (al : AwayL gl y) (ah : AwayL hbk y)
    (hhz : hbk ≠ gz) (hhl : hbk ≠ gl) (hzl : gz ≠ gl) (hgw : gl < w.heap.size) (hzw : gz < w.heap.size) (hcap : ∀ l ∈ y.ls, l.pc = l.pn) (hM : HMid y.hp) (hp : 0 ≤ a ∧ a < 256) (hB : B ≤ w.heap.size) (ho : 0 ≤ o) (hcb : 0 < o → CanBack y.hp a o) :
    Calls Try.prog 49 #[.pointer (some ⟨hbk, 0, none⟩), .int .i64 cpu, .agg #[.int .i64 a, .int .i64 o, .int .i64 t]] w fun e w' => e = .returned (.int .i64 0) ∧ ∃ y2 : Hx, w'.heap[hbk]? = some (.cells #[.slice y2.zo y2.zn y2.zc, .slice y2.mo y2.mn y2.mc, .int .i64 y2.cpus, .slice y2.lo y2.ln y2.lc, .slice y2.vo y2.vn y2.vc] 28 (0, 0)) ∧ y2.At w' ∧ y2.hp = releaseH y.hp cpu ⟨a, o, t⟩ ∧ Ex (fun k => k = gz ∨ k = gl ∨ k = hbk) w w' ∧ (∀ b, b < w.heap.size → b ≠ gl → Away b y → Away b y2) ∧ y2.zo = y.zo := by
  have B0 := Below.refl w.heap.size w
  refine sx_enter (args := [_, _, _]) 21 Try.func49 rfl rfl rfl ?_
  intro A f
  refine wp_seq ?_
  refine sx_list ?_
  refine l_box f rfl rfl rfl rfl rfl ?_; clear f A; intro b1 W2 eb1 hb3 rb1 A f; dsimp only [Value.cells] at rb1
  have o_hbk_b1 : hbk < b1 := by have := row_lt rhbk; omega
  have z_B0_b1 := B0.size; rw [eb1] at z_B0_b1
  replace B0 := Below.next B0 hb3; replace rhbk := row_next rhbk hb3
  refine l_do f rfl rfl rfl (y_assign rfl rfl) ?_; clear f A; intro A f
  refine wpList_nil ?_
  refine x_tn ?_
  refine wp_seq ?_
  refine wp_seq ?_
  refine sx_list ?_
  refine l_do f rfl rfl rfl (y_field rfl rfl (fo rfl)) ?_; clear f A; intro A f
  refine l_do f rfl rfl rfl (y_load1 rfl rfl (ag rfl) (rowl (rowq rb1) rfl)) ?_; clear f A; intro A f
  refine l_if _ f rfl rfl rfl (y_gtr rfl rfl rfl) ?_ ?_
  · clear f A; intro c4 A f
    refine wpList_nil ?_
    refine x_tn ?_
    refine x_condT f rfl ?_
    refine wp_seq ?_
    refine sx_list ?_
    refine l_do f rfl rfl rfl (y_move rfl rfl) ?_; clear f A; intro A f
    refine l_do f rfl rfl rfl (y_field rfl rfl (fo rfl)) ?_; clear f A; intro A f
    refine l_do f rfl rfl rfl (y_load1 rfl rfl (ag rfl) (rowl (rowq rb1) rfl)) ?_; clear f A; intro A f
    refine l_do f rfl rfl rfl (y_field rfl rfl (fo rfl)) ?_; clear f A; intro A f
    refine l_do f rfl rfl rfl (y_load1 rfl rfl (ag rfl) (rowl (rowq rb1) rfl)) ?_; clear f A; intro A f
    refine l_call f rfl rfl rfl (IsCall.mk' (cap := []) rfl rfl rfl) (pl rfl) (pBackF_ok _ B gz hbk y a o rhbk (HY.below B0) hhz (hcb (by omega))) ?_
    clear f A
    rintro _ W5 ⟨rfl, z, hz, HY2, hbt, haf⟩
    refine ⟨_, rfl, ?_⟩
    intro A f
    replace rhbk := But.row hbt rhbk hhz
    have hsB := B0.size
    refine l_do f rfl rfl rfl (y_assign rfl rfl) ?_; clear f A; intro A f
    refine wpList_nil ?_
    refine x_tn ?_
    refine wp_ret ?_
    refine x_tr ?_
    refine x_ret1 f rfl rfl ?_
    -- return 0: c4@9
    refine ⟨rfl, y.setZ (zIdx y.hp a) z, rhbk, HY2.at_, ?_, (Ex.of_below B0).trans (Ex.of_but hbt (.inl rfl)), fun b hb _ ha => ?_, rfl⟩
    · rw [releaseH, if_pos (by show 0 < o; omega)]
      exact setZ_hp hz
    · have := haf b (by omega) ⟨ha.f, ha.t⟩
      exact ⟨this.f, this.t, ha.m, ha.l, ha.p, ha.v⟩
  · clear f A; intro c4 A f
    refine wpList_nil ?_
    refine x_tn ?_
    refine x_condF f rfl ?_
    refine wp_skip ?_
    refine x_tn ?_
    refine wp_seq ?_
    refine sx_list ?_
    refine l_do f rfl rfl rfl (y_move rfl rfl) ?_; clear f A; intro A f
    refine l_do f rfl rfl rfl (y_move rfl rfl) ?_; clear f A; intro A f
    refine l_do f rfl rfl rfl (y_field rfl rfl (fo rfl)) ?_; clear f A; intro A f
    refine l_do f rfl rfl rfl (y_load1 rfl rfl (ag rfl) (rowl (rowq rb1) rfl)) ?_; clear f A; intro A f
    have eo : o = 0 := by omega
    have hsB := B0.size
    refine l_call f rfl rfl rfl (IsCall.mk' (cap := []) rfl rfl rfl) (pl rfl) (pKeep_any _ B gz gl hbk y cpu a rhbk (HY.below B0) (owns_below ol B0 (Nat.le_refl _)) el al ah hhz hhl hzl (by omega) (by omega) hcap hM hp (by omega)) ?_
    clear f A
    rintro _ W6 ⟨rfl, y2, rh2, hAt2, hy2, hex, haw, hzo⟩
    refine ⟨_, rfl, ?_⟩
    intro A f
    refine l_do f rfl rfl rfl (y_assign rfl rfl) ?_; clear f A; intro A f
    refine wpList_nil ?_
    refine x_tn ?_
    refine wp_ret ?_
    refine x_ret1 f rfl rfl ?_
    -- return 1: ¬c4@9
    refine ⟨rfl, y2, rh2, hAt2, ?_, (Ex.of_below B0).trans hex, fun b hb hbl ha => haw b (by omega) hbl ha, hzo⟩
    rw [releaseH, if_neg (by show ¬ 0 < o; omega)]
    exact hy2


end Go.Proofs.Ytbjlbmofdnkmiaa
