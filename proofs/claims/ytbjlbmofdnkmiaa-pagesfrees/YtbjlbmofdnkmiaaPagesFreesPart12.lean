/-
  OWN TEXTS, bundled: RefZb, HCp, LSet1, Sxg.
-/
import Derived.Test.YtbjlbmofdnkmiaaPagesFreesPart11
import Derived.Test.YtbjlbmofdnkmiaaPagesFreesPart2
import Derived.Deep.RegionHeld3
import Derived.Test.YtbjlbmofdnkmiaaPagesFreesPart10

/-
  OWN TEXT. Contracts of the document's answer: blocks, ZoneCopy.
-/
namespace Go.Proofs.Ytbjlbmofdnkmiaa
open Go Go.RowKit Go.Proofs.Ytbjlbmofdnkmiaa.Kit

set_option maxHeartbeats 1000000 in
theorem blocksCopy_any (w : World) (ao : Option Addr) (n cap : Nat) (l : List Bk) (h : Blks w ao n l) :
    Calls Try.prog 43 #[.slice ao n cap] w fun e w' => ∃ bo c, e = .returned (.slice bo n c) ∧
      w'.ownsRow w.heap.size 63 3 (.slice bo n c) n (bvals l) ∧ Below w.heap.size w w' := by
  obtain ⟨i0, hi, hz0, hz1, hz2⟩ := info_parts info_block
  obtain ⟨hn, hr, hx⟩ := h
  go_enter Try.func43, Try.ntmps43
  go_wp2
  go_loopw [3, 4] (fun v i wr => ∃ k : Nat, k ≤ n ∧ i = .int .i64 k ∧ wr.ownsRow w.heap.size 63 3 v k (bvals (l.take k)) ∧ Below w.heap.size w wr) (fun _ i _ => n - (intOf i).toNat)
  case atStart => exact ⟨0, Nat.zero_le _, rfl, World.ownsRow_nil _ _ _ _, Below.refl _ _⟩
  case round =>
    obtain ⟨k, hk, rfl, hown, hb⟩ := hrel
    have hs := hb.size
    by_cases hlt : k < n
    · obtain ⟨b, o, x, y, z, rfl, c1, c2, c3, hX⟩ := (hx.below hb).at k (by omega)
      have hml : k + 1 ≤ maxLen := by unfold maxLen; omega
      clear hx
      go_wp2_with (at_builtin; refine wpList_append_own _ rfl (.tmp 11) (.tmp 16) 26 rfl w.heap.size 63 i0 (.agg #[.int .i64 0, .int .i64 0, .int .i64 0]) 3 24 Try.underlying26 hi hz0 hz1 hz2 rfl (by decide) _ _ _ rfl (hown.alloc _) ⟨wr.heap.size, 0, none⟩ 1 1 [.int .i64 x, .int .i64 y, .int .i64 z] rfl rfl ?c1 ?c2 hml ?c4 ?c5 ?_)
      case c1 => exact cell_three_new _ _ _ _ _
      case c2 => exact ints_oneCell .i64 [_, _, _]
      case c4 => omega
      case c5 => simp; omega
      intro v' w1 hown' hgrow _
      rw [btake_snoc l k (by omega) hX.out] at hown'
      have hb' : Below w.heap.size w w1 := (hb.alloc hs _).grown hgrow (by simp; omega) (fun g hg => (hown.lt g hg).1)
      clear hown hgrow hb
      go_wp2
      go_roundw
      case rel => exact ⟨k + 1, by omega, by go_num, hown', hb'⟩
      case measure => simp [intOf]; omega
    · obtain rfl : k = n := by omega
      obtain ⟨bo, c, rfl⟩ := owns_shape hown
      go_wp2
      go_ret
      exact ⟨bo, c, rfl, by rw [List.take_of_length_le (by omega)] at hown; exact hown, hb⟩

/-- What is held while a zone is copied: the argument's block and what lies below it; the result's block may be written. -/
structure CopyS (w W0 wx : World) : Prop where
  b : Below (w.heap.size + 1) W0 wx
  r : Res4 wx (w.heap.size + 1)
  s : W0.heap.size ≤ wx.heap.size

/-- What lies in a cell. -/
def cont (wx : World) (b i : Nat) : Value := (wx.cell? ⟨b, i, none⟩).getD undef
theorem cont_eq {wx : World} {b i : Nat} (h : ∃ v, wx.cell? ⟨b, i, none⟩ = some v) : wx.cell? ⟨b, i, none⟩ = some (cont wx b i) := by
  obtain ⟨v, e⟩ := h
  unfold cont
  rw [e]; rfl

theorem CopyS.drew {w W0 : World} (h : CopyS w W0 W0) : CopyS w W0 W0.drew := ⟨h.b.drew, h.r.belowB (B := W0.heap.size) (Below.refl _ _).drew (by obtain ⟨v, e⟩ := h.r.d0; have := World.block_lt_of_cell? W0 _ e; exact this), h.s⟩
theorem CopyS.step {w W0 W W' : World} (h : CopyS w W0 W) (hb : Below W.heap.size W W') (hs : w.heap.size + 1 ≤ W.heap.size) : CopyS w W0 W' := ⟨h.b.trans (hb.mono hs), h.r.below hb, Nat.le_trans h.s hb.size⟩
theorem CopyS.store {w W0 W : World} (h : CopyS w W0 W) (x y u v : Value) : CopyS w W0 ((((W.setCell ⟨w.heap.size + 1, 0, none⟩ x).setCell ⟨w.heap.size + 1, 1, none⟩ y).setCell ⟨w.heap.size + 1, 2, none⟩ u).setCell ⟨w.heap.size + 1, 3, none⟩ v) := by
  obtain ⟨⟨v0, e0⟩, ⟨v1, e1⟩, ⟨v2, e2⟩, ⟨v3, e3⟩, z0, z1, z2, z3⟩ := h.r
  have hbt := but4 W (w.heap.size + 1) x y u v
  have hlt := World.block_lt_of_cell? W _ e0
  dsimp only at hlt
  exact ⟨h.b.trans (hbt.below (Nat.le_refl _) (by omega)), (ZBox.set4 ⟨e0, e1, e2, e3, z0, z1, z2, z3⟩ x y u v).res, Nat.le_trans h.s hbt.size⟩

set_option maxHeartbeats 2000000 in
theorem zoneCopy_any (w : World) (fo : Option Addr) (fn fc : Nat) (to_ : Option Addr) (tn tc : Nat) (z : Zn) (h : ZnAt w fo fn to_ tn z) :
    Calls Try.prog 44 #[.agg #[.int .i64 z.f, .int .i64 z.t, .slice fo fn fc, .slice to_ tn tc]] w fun e w' => RetZ w.heap.size w' z e ∧ Below w.heap.size w w' := by
  obtain ⟨f, t, free, types⟩ := z
  obtain ⟨hf, ht⟩ := h
  dsimp only at hf ht ⊢
  obtain ⟨W0, hW0⟩ : ∃ W0, (w.alloc (.cells #[.int .i64 f, .int .i64 t, .slice fo fn fc, .slice to_ tn tc] 44)).alloc (.cells #[.int .i64 0, .int .i64 0, .slice none 0 0, .slice none 0 0] 44) = W0 := ⟨_, rfl⟩
  have hb0 : Below w.heap.size w W0 := by rw [← hW0]; exact ((Below.refl _ _).alloc (Nat.le_refl _) _).alloc (by simp) _
  have Z0 : ZBox W0 w.heap.size (.int .i64 f) (.int .i64 t) (.slice fo fn fc) (.slice to_ tn tc) := by rw [← hW0]; exact (zbox_new w _ _ _ _ _).below (below_box _ _)
  have R0 : Res4 W0 (w.heap.size + 1) := by
    rw [← hW0]
    have := zbox_new (w.alloc (.cells #[.int .i64 f, .int .i64 t, .slice fo fn fc, .slice to_ tn tc] 44)) (.int .i64 0) (.int .i64 0) (.slice none 0 0) (.slice none 0 0) 44
    have h2 := this.res
    simpa using h2
  have hs0 : w.heap.size + 2 = W0.heap.size := by rw [← hW0]; simp
  have S0 : CopyS w W0 W0 := ⟨Below.refl _ _, R0, Nat.le_refl _⟩
  have hz := Z0.lt
  have q0 : ∀ wx, CopyS w W0 wx → wx.cell? ⟨w.heap.size, 0, none⟩ = some (.int .i64 f) := fun wx h => (h.b.cell (p := ⟨w.heap.size, 0, none⟩) (show w.heap.size < w.heap.size + 1 by omega)).trans Z0.c0
  have q1 : ∀ wx, CopyS w W0 wx → wx.cell? ⟨w.heap.size, 1, none⟩ = some (.int .i64 t) := fun wx h => (h.b.cell (p := ⟨w.heap.size, 1, none⟩) (show w.heap.size < w.heap.size + 1 by omega)).trans Z0.c1
  have q2 : ∀ wx, CopyS w W0 wx → wx.cell? ⟨w.heap.size, 2, none⟩ = some (.slice fo fn fc) := fun wx h => (h.b.cell (p := ⟨w.heap.size, 2, none⟩) (show w.heap.size < w.heap.size + 1 by omega)).trans Z0.c2
  have q3 : ∀ wx, CopyS w W0 wx → wx.cell? ⟨w.heap.size, 3, none⟩ = some (.slice to_ tn tc) := fun wx h => (h.b.cell (p := ⟨w.heap.size, 3, none⟩) (show w.heap.size < w.heap.size + 1 by omega)).trans Z0.c3
  have d0 : ∀ wx, CopyS w W0 wx → wx.cell? ⟨w.heap.size + 1, 0, none⟩ = some (cont wx (w.heap.size + 1) 0) := fun wx h => cont_eq h.r.d0
  have d1 : ∀ wx, CopyS w W0 wx → wx.cell? ⟨w.heap.size + 1, 1, none⟩ = some (cont wx (w.heap.size + 1) 1) := fun wx h => cont_eq h.r.d1
  have d2 : ∀ wx, CopyS w W0 wx → wx.cell? ⟨w.heap.size + 1, 2, none⟩ = some (cont wx (w.heap.size + 1) 2) := fun wx h => cont_eq h.r.d2
  have d3 : ∀ wx, CopyS w W0 wx → wx.cell? ⟨w.heap.size + 1, 3, none⟩ = some (cont wx (w.heap.size + 1) 3) := fun wx h => cont_eq h.r.d3
  have z0 : ∀ wx, CopyS w W0 wx → wx.frozen? ⟨w.heap.size + 1, 0, none⟩ = false := fun wx h => h.r.z0
  have z1 : ∀ wx, CopyS w W0 wx → wx.frozen? ⟨w.heap.size + 1, 1, none⟩ = false := fun wx h => h.r.z1
  have z2 : ∀ wx, CopyS w W0 wx → wx.frozen? ⟨w.heap.size + 1, 2, none⟩ = false := fun wx h => h.r.z2
  have z3 : ∀ wx, CopyS w W0 wx → wx.frozen? ⟨w.heap.size + 1, 3, none⟩ = false := fun wx h => h.r.z3
  have HB : Hid (∀ W, CopyS w W0 W → Calls Try.prog 43 #[.slice fo fn fc] W fun e w' => ∃ bo c, e = .returned (.slice bo fn c) ∧ (Blks w' bo fn free ∧ Fresh W0.heap.size bo ∧ Below W.heap.size W w') ∧ CopyS w W0 w') := fun W hS => by
    have hs := hS.s
    refine (blocksCopy_any W fo fn fc free (hf.below (hb0.trans (hS.b.mono (by omega))))).mono ?_
    rintro e w' ⟨bo, c, rfl, own, hb⟩
    exact ⟨bo, c, rfl, ⟨blks_own own hf.reach, (owns_fresh own).mono hs, hb⟩, hS.step hb (by omega)⟩
  have HW : Hid (∀ W, CopyS w W0 W → Calls Try.prog 42 #[.slice to_ tn tc] W fun e w' => ∃ bo c, e = .returned (.slice bo tn c) ∧ (Nums w' bo tn types ∧ Fresh W0.heap.size bo ∧ Below W.heap.size W w') ∧ CopyS w W0 w') := fun W hS => by
    have hs := hS.s
    refine (words_any W to_ tn tc types ht.len ht.reach (ht.below (hb0.trans (hS.b.mono (by omega)))).at_).mono ?_
    rintro e w' ⟨bo, c, rfl, own, hb⟩
    exact ⟨bo, c, rfl, ⟨nums_of_owns own ht.reach, (owns_fresh own).mono hs, hb⟩, hS.step hb (by omega)⟩
  go_enter Try.func44, Try.ntmps44
  go_wp2_with fail
  clear hf ht hW0 Z0 R0 hz
  go_region_held3 (fun wx => CopyS w W0 wx) (first | assumption | exact CopyS.drew (by assumption) | exact CopyS.store (by assumption) _ _ _ _)
    (first
      | (go_at_call 43; refine (HB.out _ ?_).mono ?_; assumption; rintro e w3 ⟨bo, c, rfl, g1, hS3⟩)
      | (go_at_call 42; refine (HW.out _ ?_).mono ?_; assumption; rintro e w4 ⟨bo2, c2, rfl, g2, hS4⟩))
  obtain ⟨g11, g12, g13⟩ := g1
  obtain ⟨g21, g22, g23⟩ := g2
  have hR4 := hS4.r
  have hB4 := hb0.trans (hS4.b.mono (Nat.le_succ _))
  replace g11 := g11.below g23
  have hs4 := hS4.s
  clear q0 q1 q2 q3 d0 d1 d2 d3 z0 z1 z2 z3 HB HW S0 hS3 hS4
  go_wp2
  obtain ⟨k0, k1, k2, k3⟩ := res4 hR4 (.int .i64 f) (.int .i64 t) (.slice bo fn c) (.slice bo2 tn c2)
  have hbt := but4 w4 (w.heap.size + 1) (.int .i64 f) (.int .i64 t) (.slice bo fn c) (.slice bo2 tn c2)
  refine bodyPost_ret (v := .agg #[.int .i64 f, .int .i64 t, .slice bo fn c, .slice bo2 tn c2]) (by simp [results, Try.results44, go_sem, k0, k1, k2, k3]) rfl ⟨⟨bo, fn, c, bo2, tn, c2, rfl, ?_, g12.mono (by omega), g22.mono (by omega)⟩, hB4.trans (hbt.below (by omega) (by omega))⟩
  exact hbt.zn ⟨g11, g21⟩ (fun a ha => by have := g12 a ha; omega) (fun a ha => by have := g22 a ha; omega)

end Go.Proofs.Ytbjlbmofdnkmiaa

/-
  OWN TEXT. A heap that is being copied, list by list.
-/
namespace Go.Proofs.Ytbjlbmofdnkmiaa
open Go Go.RowKit Go.Proofs.Ytbjlbmofdnkmiaa.Kit

/-- No element but those of the row of lists lies in block b. -/
structure AwayZ (b : Nat) (y : Hx) : Prop where
  f : ∀ z ∈ y.zs, 0 < z.z.free.length → ∀ a, z.fo = some a → a.block ≠ b
  t : ∀ z ∈ y.zs, 0 < z.z.types.length → ∀ a, z.to_ = some a → a.block ≠ b
  m : 0 < y.mins.length → ∀ a, y.mo = some a → a.block ≠ b
  p : ∀ l ∈ y.ls, 0 < l.l.pages.length → ∀ a, l.po = some a → a.block ≠ b
  v : 0 < y.live.length → ∀ a, y.vo = some a → a.block ≠ b
/-- The rows of zones and lists are the call's own. -/
structure HcpI (W : World) (s : Nat) (y : Hx) : Prop where
  oz : W.ownsRow s 44 4 (.slice y.zo y.zn y.zc) y.zn (c4 (y.zs.map Zc.q))
  ol : W.ownsRow s 57 4 (.slice y.lo y.ln y.lc) y.ln (c4 (y.ls.map Lc.q))
  at_ : y.At W
  az : ∀ a, y.zo = some a → Away a.block y
  al : ∀ a, y.lo = some a → AwayZ a.block y
  zl : ∀ a b, y.zo = some a → y.lo = some b → a.block ≠ b.block
theorem HcpI.below {W W' : World} {s : Nat} {y : Hx} (h : HcpI W s y) (hb : Below W.heap.size W W') : HcpI W' s y :=
  ⟨owns_below h.oz hb (Nat.le_refl _), owns_below h.ol hb (Nat.le_refl _), h.at_.below hb, h.az, h.al, h.zl⟩
theorem owns_blk {w : World} {base : Nat} {e : TypeId} {ao : Option Addr} {n cap size : Nat} {xs : List Value} (h : w.ownsRow base e size (.slice ao n cap) n xs) : ∀ a, ao = some a → base ≤ a.block ∧ a.block < w.heap.size ∧ a.off = 0 ∧ a = ⟨a.block, 0, none⟩ := by
  intro a ha
  rcases h.2 with ⟨h', _⟩ | ⟨g, cap', cur, h', hb, hg, _⟩
  · simp only [Value.slice.injEq] at h'
    rw [h'.1] at ha
    cases ha
  · simp only [Value.slice.injEq] at h'
    rw [h'.1] at ha
    cases ha
    exact ⟨hb, (Array.getElem?_eq_some_iff.1 hg).1, rfl, rfl⟩
theorem owns_butN {W W' : World} {b base : Nat} {e : TypeId} {ao : Option Addr} {n cap size : Nat} {xs : List Value} (h : W.ownsRow base e size (.slice ao n cap) n xs) (hb : But b W W') (hne : ∀ a, ao = some a → a.block ≠ b) : W'.ownsRow base e size (.slice ao n cap) n xs := by
  cases ao with
  | none => exact ⟨h.1, by rcases h.2 with q | ⟨_, _, _, q, _⟩; exact .inl q; cases q⟩
  | some a =>
    have e1 := (owns_blk h a rfl).2.2.2
    have e2 := hne a rfl
    rw [e1] at h ⊢
    exact own_but h hb e2
/-- Into a block that is not of it. -/
theorem HcpI.but {W W' : World} {s b : Nat} {y : Hx} (h : HcpI W s y) (hb : But b W W') (hz : ∀ a, y.zo = some a → a.block ≠ b) (hl : ∀ a, y.lo = some a → a.block ≠ b) (ha : Away b y) : HcpI W' s y := by
  refine ⟨?_, ?_, at_but h.at_ hb (fun _ => hz) ha, h.az, h.al, h.zl⟩
  · exact owns_butN h.oz hb hz
  · exact owns_butN h.ol hb hl
/-- With a zone more. -/
def Kit.Hx.addZ (y : Hx) (z : Zc) (g cap : Nat) : Hx := { y with zs := y.zs ++ [z], zo := some ⟨g, 0, none⟩, zn := y.zn + 1, zc := cap }
theorem HcpI.addZ {W W' : World} {s g cap q : Nat} {y : Hx} {z : Zc} (h : HcpI W s y) (hn : (y.zn + 1) * 64 ≤ 140737488351232) (hqW : q ≤ W.heap.size) (hzq : ∀ a, y.zo = some a → a.block < q) (hlq : ∀ a, y.lo = some a → a.block < q) (hz : z.At W) (h1 : ∀ a, z.fo = some a → q ≤ a.block) (h2 : ∀ a, z.to_ = some a → q ≤ a.block)
    (ho : W'.ownsRow s 44 4 (.slice (some ⟨g, 0, none⟩) (y.zn + 1) cap) (y.zn + 1) (c4 (y.zs.map Zc.q) ++ [z.q.a, z.q.b, z.q.c, z.q.d])) (hc : (y.zo = some ⟨g, 0, none⟩ ∧ But g W W') ∨ (g = W.heap.size ∧ Below W.heap.size W W')) : HcpI W' s (y.addZ z g cap) := by
  have hm : ((y.zs ++ [z]).map Zc.q) = y.zs.map Zc.q ++ [z.q] := by simp
  have hc4 : c4 ((y.zs ++ [z]).map Zc.q) = c4 (y.zs.map Zc.q) ++ [z.q.a, z.q.b, z.q.c, z.q.d] := by rw [hm, c4_append]; rfl
  have ho' : W'.ownsRow s 44 4 (.slice (some ⟨g, 0, none⟩) (y.zn + 1) cap) (y.zn + 1) (c4 ((y.zs ++ [z]).map Zc.q)) := by rw [hc4]; exact ho
  have hmem : ∀ c ∈ y.zs ++ [z], c ∈ y.zs ∨ c = z := fun c hc => by simpa using hc
  -- nothing old lies in the row
  have hAw : Away g y := by
    rcases hc with ⟨e, _⟩ | ⟨e, _⟩
    · exact h.az _ e
    · exact away_old h.at_ (Nat.le_of_eq e.symm)
  have hgl : ∀ a, y.lo = some a → g ≠ a.block := by
    intro a ha
    have := hlq a ha
    rcases hc with ⟨e, _⟩ | ⟨e, _⟩
    · exact h.zl _ a e ha
    · omega
  have hgq : (y.zo = some ⟨g, 0, none⟩ ∧ g < q) ∨ g = W.heap.size := by
    rcases hc with ⟨e, _⟩ | ⟨e, _⟩
    · exact .inl ⟨e, hzq _ e⟩
    · exact .inr e
  -- the parts stand
  have hAt : (∀ c ∈ y.zs ++ [z], c.At W') ∧ Nums W' y.mo y.mn y.mins ∧ Lsts W' y.lo y.ln y.ls ∧ Blks W' y.vo y.vn y.live ∧ W'.ownsRow s 57 4 (.slice y.lo y.ln y.lc) y.ln (c4 (y.ls.map Lc.q)) := by
    rcases hc with ⟨e, hb⟩ | ⟨e, hb⟩
    · have hgqq := hzq _ e
      refine ⟨fun c hc => ?_, nums_but h.at_.mins hb hAw.m, ⟨h.at_.lists.len, h.at_.lists.reach, ?_, fun l hl => nums_but (h.at_.lists.at_ l hl) hb (hAw.p l hl)⟩, blks_but h.at_.live hb hAw.v, ?_⟩
      · rcases hmem c hc with hc | rfl
        · exact ⟨blks_but (h.at_.zones.at_ c hc).free hb (hAw.f c hc), nums_but (h.at_.zones.at_ c hc).types hb (hAw.t c hc)⟩
        · exact hb.zn hz (fun a ha => by have := h1 a ha; dsimp only at hgqq; omega) (fun a ha => by have := h2 a ha; dsimp only at hgqq; omega)
      · by_cases h0 : 0 < y.ls.length
        · exact h.at_.lists.cells.but hb (hAw.l h0)
        · intro i hi; rw [List.length_map] at hi; omega
      · exact owns_butN h.ol hb (fun a ha => Ne.symm (hgl a ha))
    · refine ⟨fun c hc => ?_, h.at_.mins.below hb, h.at_.lists.below hb, h.at_.live.below hb, owns_below h.ol hb (Nat.le_refl _)⟩
      rcases hmem c hc with hc | rfl
      · exact (h.at_.zones.at_ c hc).below hb
      · exact hz.below hb
  have hzn := h.at_.zones.len
  refine ⟨ho', hAt.2.2.2.2, ⟨⟨by show (y.zs ++ [z]).length = y.zn + 1; simp [hzn], hn, c4_of_owns ho', hAt.1⟩, hAt.2.1, hAt.2.2.1, hAt.2.2.2.1⟩, ?_, ?_, ?_⟩
  · intro a ha
    cases ha
    refine ⟨fun c hc h0 a ha => ?_, fun c hc h0 a ha => ?_, hAw.m, hAw.l, hAw.p, hAw.v⟩
    · rcases hmem c hc with hc | rfl
      · exact hAw.f c hc h0 a ha
      · have h5 := h1 a ha
        have h6 := blks_lt hz.free h0 a ha
        show _ ≠ g
        rcases hgq with ⟨_, h7⟩ | h7 <;> omega
    · rcases hmem c hc with hc | rfl
      · exact hAw.t c hc h0 a ha
      · have h5 := h2 a ha
        have h6 := nums_lt hz.types h0 a ha
        show _ ≠ g
        rcases hgq with ⟨_, h7⟩ | h7 <;> omega
  · intro a ha
    have hA := h.al a ha
    have := hlq a ha
    refine ⟨fun c hc h0 b hb => ?_, fun c hc h0 b hb => ?_, hA.m, hA.p, hA.v⟩
    · rcases hmem c hc with hc | rfl
      · exact hA.f c hc h0 b hb
      · have h5 := h1 b hb
        omega
    · rcases hmem c hc with hc | rfl
      · exact hA.t c hc h0 b hb
      · have h5 := h2 b hb
        omega
  · intro a b ha hb
    cases ha
    exact hgl b hb

/-- With a list more. -/
def Kit.Hx.addL (y : Hx) (l : Lc) (g cap : Nat) : Hx := { y with ls := y.ls ++ [l], lo := some ⟨g, 0, none⟩, ln := y.ln + 1, lc := cap }
theorem HcpI.addL {W W' : World} {s g cap q : Nat} {y : Hx} {l : Lc} (h : HcpI W s y) (hn : (y.ln + 1) * 48 ≤ 140737488351232) (hqW : q ≤ W.heap.size) (hzq : ∀ a, y.zo = some a → a.block < q) (hlq : ∀ a, y.lo = some a → a.block < q) (hz : l.At W) (h1 : ∀ a, l.po = some a → q ≤ a.block)
    (ho : W'.ownsRow s 57 4 (.slice (some ⟨g, 0, none⟩) (y.ln + 1) cap) (y.ln + 1) (c4 (y.ls.map Lc.q) ++ [l.q.a, l.q.b, l.q.c, l.q.d])) (hc : (y.lo = some ⟨g, 0, none⟩ ∧ But g W W') ∨ (g = W.heap.size ∧ Below W.heap.size W W')) : HcpI W' s (y.addL l g cap) := by
  have hm : ((y.ls ++ [l]).map Lc.q) = y.ls.map Lc.q ++ [l.q] := by simp
  have hc4 : c4 ((y.ls ++ [l]).map Lc.q) = c4 (y.ls.map Lc.q) ++ [l.q.a, l.q.b, l.q.c, l.q.d] := by rw [hm, c4_append]; rfl
  have ho' : W'.ownsRow s 57 4 (.slice (some ⟨g, 0, none⟩) (y.ln + 1) cap) (y.ln + 1) (c4 ((y.ls ++ [l]).map Lc.q)) := by rw [hc4]; exact ho
  have hmem : ∀ c ∈ y.ls ++ [l], c ∈ y.ls ∨ c = l := fun c hc => by simpa using hc
  have hAw : AwayZ g y := by
    rcases hc with ⟨e, _⟩ | ⟨e, _⟩
    · exact h.al _ e
    · have := away_old h.at_ (Nat.le_of_eq e.symm)
      exact ⟨this.f, this.t, this.m, this.p, this.v⟩
  have hgz : ∀ a, y.zo = some a → a.block ≠ g := by
    intro a ha
    have := hzq a ha
    rcases hc with ⟨e, _⟩ | ⟨e, _⟩
    · exact h.zl a _ ha e
    · omega
  have hgq : (y.lo = some ⟨g, 0, none⟩ ∧ g < q) ∨ g = W.heap.size := by
    rcases hc with ⟨e, _⟩ | ⟨e, _⟩
    · exact .inl ⟨e, hlq _ e⟩
    · exact .inr e
  have hAt : (∀ c ∈ y.ls ++ [l], c.At W') ∧ Nums W' y.mo y.mn y.mins ∧ Zons W' y.zo y.zn y.zs ∧ Blks W' y.vo y.vn y.live ∧ W'.ownsRow s 44 4 (.slice y.zo y.zn y.zc) y.zn (c4 (y.zs.map Zc.q)) := by
    rcases hc with ⟨e, hb⟩ | ⟨e, hb⟩
    · have hgqq := hlq _ e
      refine ⟨fun c hc => ?_, nums_but h.at_.mins hb hAw.m, ⟨h.at_.zones.len, h.at_.zones.reach, ?_, fun z hz => ⟨blks_but (h.at_.zones.at_ z hz).free hb (hAw.f z hz), nums_but (h.at_.zones.at_ z hz).types hb (hAw.t z hz)⟩⟩, blks_but h.at_.live hb hAw.v, owns_butN h.oz hb hgz⟩
      · rcases hmem c hc with hc | rfl
        · exact nums_but (h.at_.lists.at_ c hc) hb (hAw.p c hc)
        · exact nums_but hz hb (fun _ a ha => by have := h1 a ha; dsimp only at hgqq; omega)
      · by_cases h0 : 0 < y.zs.length
        · exact h.at_.zones.cells.but hb hgz
        · intro i hi; rw [List.length_map] at hi; omega
    · refine ⟨fun c hc => ?_, h.at_.mins.below hb, h.at_.zones.below hb, h.at_.live.below hb, owns_below h.oz hb (Nat.le_refl _)⟩
      rcases hmem c hc with hc | rfl
      · exact (h.at_.lists.at_ c hc).below hb
      · exact hz.below hb
  have hln := h.at_.lists.len
  refine ⟨hAt.2.2.2.2, ho', ⟨hAt.2.2.1, hAt.2.1, ⟨by show (y.ls ++ [l]).length = y.ln + 1; simp [hln], hn, c4_of_owns ho', hAt.1⟩, hAt.2.2.2.1⟩, ?_, ?_, ?_⟩
  · intro a ha
    have hA := h.az a ha
    have := hzq a ha
    refine ⟨hA.f, hA.t, hA.m, fun _ b hb => ?_, fun c hc h0 b hb => ?_, hA.v⟩
    · cases hb
      exact Ne.symm (hgz a ha)
    · rcases hmem c hc with hc | rfl
      · exact hA.p c hc h0 b hb
      · have h5 := h1 b hb
        omega
  · intro a ha
    cases ha
    refine ⟨hAw.f, hAw.t, hAw.m, fun c hc h0 b hb => ?_, hAw.v⟩
    rcases hmem c hc with hc | rfl
    · exact hAw.p c hc h0 b hb
    · have h5 := h1 b hb
      have h6 := nums_lt hz h0 b hb
      show _ ≠ g
      rcases hgq with ⟨_, h7⟩ | h7 <;> omega
  · intro a b ha hb
    cases hb
    exact hgz a ha
theorem HcpI.hz {W : World} {s : Nat} {y : Hx} (h : HcpI W s y) (hn : 0 < y.zn) : ∃ gz, HZ W s gz y := by
  obtain ⟨g, e, hb, _⟩ := owns_head h.oz hn
  exact ⟨g, h.oz, e, h.at_, h.az _ e, hb⟩

/-- In the midst of HeapCopy: x is copied, y is what there is of the copy, in the variable b3. -/
structure HcQ (w W : World) (b1 b4 b3 : Nat) (x y : Hx) : Prop where
  B : Below w.heap.size w W
  r1 : W.heap[b1]? = some (.cells #[.slice x.zo x.zn x.zc, .slice x.mo x.mn x.mc, .int .i64 x.cpus, .slice x.lo x.ln x.lc, .slice x.vo x.vn x.vc] 28 (0, 0))
  r4 : W.heap[b4]? = some (.cells #[.slice none 0 0, .slice none 0 0, .int .i64 0, .slice none 0 0, .slice none 0 0] 28 (0, 0))
  r3 : W.heap[b3]? = some (.cells #[.slice y.zo y.zn y.zc, .slice y.mo y.mn y.mc, .int .i64 y.cpus, .slice y.lo y.ln y.lc, .slice y.vo y.vn y.vc] 28 (0, 0))
  C : HcpI W w.heap.size y
  z3 : ∀ a, y.zo = some a → a.block ≠ b3 ∧ a.block ≠ b1 ∧ a.block ≠ b4
  l3 : ∀ a, y.lo = some a → a.block ≠ b3 ∧ a.block ≠ b1 ∧ a.block ≠ b4
  a3 : Away b3 y
  a4 : Away b4 y
  a5 : ∀ b, b < w.heap.size → Away b y
  e1 : y.mins = x.mins
  e2 : y.cpus = x.cpus
  e3 : y.live = x.live
  d : w.heap.size ≤ b1 ∧ w.heap.size ≤ b4 ∧ w.heap.size ≤ b3 ∧ b1 ≠ b3 ∧ b4 ≠ b3
theorem HcQ.below {w W W' : World} {b1 b4 b3 : Nat} {x y : Hx} (h : HcQ w W b1 b4 b3 x y) (hb : Below W.heap.size W W') : HcQ w W' b1 b4 b3 x y :=
  ⟨Below.next h.B hb, row_next h.r1 hb, row_next h.r4 hb, row_next h.r3 hb, h.C.below hb, h.z3, h.l3, h.a3, h.a4, h.a5, h.e1, h.e2, h.e3, h.d⟩
/-- The lists' own blocks are there. -/
theorem HcQ.lt {w W : World} {b1 b4 b3 : Nat} {x y : Hx} (h : HcQ w W b1 b4 b3 x y) : b1 < W.heap.size ∧ b4 < W.heap.size ∧ b3 < W.heap.size ∧ (∀ a, y.zo = some a → a.block < W.heap.size) ∧ (∀ a, y.lo = some a → a.block < W.heap.size) :=
  ⟨row_lt h.r1, row_lt h.r4, row_lt h.r3, fun a ha => (owns_blk h.C.oz a ha).2.1, fun a ha => (owns_blk h.C.ol a ha).2.1⟩
/-- A zone is appended, and stored. -/
theorem HcQ.addZ {w W W1 W2 : World} {b1 b4 b3 q g cap : Nat} {x y : Hx} {z : Zc} (h : HcQ w W b1 b4 b3 x y) (hn : (y.zn + 1) * 64 ≤ 140737488351232) (hqW : q ≤ W.heap.size) (hq : b1 < q ∧ b4 < q ∧ b3 < q ∧ (∀ a, y.zo = some a → a.block < q) ∧ (∀ a, y.lo = some a → a.block < q)) (hz : z.At W) (h1 : ∀ a, z.fo = some a → q ≤ a.block) (h2 : ∀ a, z.to_ = some a → q ≤ a.block)
    (ho : W1.ownsRow w.heap.size 44 4 (.slice (some ⟨g, 0, none⟩) (y.zn + 1) cap) (y.zn + 1) (c4 (y.zs.map Zc.q) ++ [z.q.a, z.q.b, z.q.c, z.q.d])) (hc : (y.zo = some ⟨g, 0, none⟩ ∧ But g W W1) ∨ (g = W.heap.size ∧ Below W.heap.size W W1))
    (hb : But b3 W1 W2) (hr : W2.heap[b3]? = some (.cells #[.slice (some ⟨g, 0, none⟩) (y.zn + 1) cap, .slice y.mo y.mn y.mc, .int .i64 y.cpus, .slice y.lo y.ln y.lc, .slice y.vo y.vn y.vc] 28 (0, 0))) : HcQ w W2 b1 b4 b3 x (y.addZ z g cap) := by
  obtain ⟨l1, l4, l3, lz, ll⟩ := hq
  have hC := h.C.addZ hn hqW lz ll hz h1 h2 ho hc
  have hg : g ≠ b3 ∧ g ≠ b1 ∧ g ≠ b4 := by
    rcases hc with ⟨e, _⟩ | ⟨e, _⟩
    · exact h.z3 _ e
    · omega
  have hgw : w.heap.size ≤ g := (owns_blk ho _ rfl).1
  have hd := h.d
  have hbw := h.B.size
  have hB1 : Below w.heap.size w W1 := by
    rcases hc with ⟨_, k⟩ | ⟨_, k⟩
    · exact h.B.trans (k.below hgw h.B.size)
    · exact Below.next h.B k
  have hrow : ∀ {b : Nat} {o : Obj}, W.heap[b]? = some o → b ≠ g → W1.heap[b]? = some o := by
    intro b o hb hne
    rcases hc with ⟨_, k⟩ | ⟨_, k⟩
    · exact But.row k hb hne
    · exact row_next hb k
  have hA : Away b3 (y.addZ z g cap) := by
    have hmem : ∀ c ∈ y.zs ++ [z], c ∈ y.zs ∨ c = z := fun c hc => by simpa using hc
    refine ⟨fun c hc h0 a ha => ?_, fun c hc h0 a ha => ?_, h.a3.m, h.a3.l, h.a3.p, h.a3.v⟩
    · rcases hmem c hc with hc | rfl
      · exact h.a3.f c hc h0 a ha
      · have := h1 a ha; omega
    · rcases hmem c hc with hc | rfl
      · exact h.a3.t c hc h0 a ha
      · have := h2 a ha; omega
  have hA4 : Away b4 (y.addZ z g cap) := by
    have hmem : ∀ c ∈ y.zs ++ [z], c ∈ y.zs ∨ c = z := fun c hc => by simpa using hc
    refine ⟨fun c hc h0 a ha => ?_, fun c hc h0 a ha => ?_, h.a4.m, h.a4.l, h.a4.p, h.a4.v⟩
    · rcases hmem c hc with hc | rfl
      · exact h.a4.f c hc h0 a ha
      · have := h1 a ha; omega
    · rcases hmem c hc with hc | rfl
      · exact h.a4.t c hc h0 a ha
      · have := h2 a ha; omega
  have hA5 : ∀ b5, b5 < w.heap.size → Away b5 (y.addZ z g cap) := by
    intro b5 hb5
    have hmem : ∀ c ∈ y.zs ++ [z], c ∈ y.zs ∨ c = z := fun c hc => by simpa using hc
    refine ⟨fun c hc h0 a ha => ?_, fun c hc h0 a ha => ?_, (h.a5 b5 hb5).m, (h.a5 b5 hb5).l, (h.a5 b5 hb5).p, (h.a5 b5 hb5).v⟩
    · rcases hmem c hc with hc | rfl
      · exact (h.a5 b5 hb5).f c hc h0 a ha
      · have := h1 a ha; omega
    · rcases hmem c hc with hc | rfl
      · exact (h.a5 b5 hb5).t c hc h0 a ha
      · have := h2 a ha; omega
  exact ⟨hB1.trans (hb.below hd.2.2.1 hB1.size), But.row hb (hrow h.r1 (Ne.symm hg.2.1)) hd.2.2.2.1, But.row hb (hrow h.r4 (Ne.symm hg.2.2)) hd.2.2.2.2, hr,
    hC.but hb (fun a ha => by cases ha; exact hg.1) (fun a ha => (h.l3 a ha).1) hA, fun a ha => by cases ha; exact hg, h.l3, hA, hA4, hA5, h.e1, h.e2, h.e3, hd⟩

/-- A list is appended, and stored. -/
theorem HcQ.addL {w W W1 W2 : World} {b1 b4 b3 q g cap : Nat} {x y : Hx} {l : Lc} (h : HcQ w W b1 b4 b3 x y) (hn : (y.ln + 1) * 48 ≤ 140737488351232) (hqW : q ≤ W.heap.size) (hq : b1 < q ∧ b4 < q ∧ b3 < q ∧ (∀ a, y.zo = some a → a.block < q) ∧ (∀ a, y.lo = some a → a.block < q)) (hz : l.At W) (h1 : ∀ a, l.po = some a → q ≤ a.block)
    (ho : W1.ownsRow w.heap.size 57 4 (.slice (some ⟨g, 0, none⟩) (y.ln + 1) cap) (y.ln + 1) (c4 (y.ls.map Lc.q) ++ [l.q.a, l.q.b, l.q.c, l.q.d])) (hc : (y.lo = some ⟨g, 0, none⟩ ∧ But g W W1) ∨ (g = W.heap.size ∧ Below W.heap.size W W1))
    (hb : But b3 W1 W2) (hr : W2.heap[b3]? = some (.cells #[.slice y.zo y.zn y.zc, .slice y.mo y.mn y.mc, .int .i64 y.cpus, .slice (some ⟨g, 0, none⟩) (y.ln + 1) cap, .slice y.vo y.vn y.vc] 28 (0, 0))) : HcQ w W2 b1 b4 b3 x (y.addL l g cap) := by
  obtain ⟨l1, l4, l3, lz, ll⟩ := hq
  have hC := h.C.addL hn hqW lz ll hz h1 ho hc
  have hg : g ≠ b3 ∧ g ≠ b1 ∧ g ≠ b4 := by
    rcases hc with ⟨e, _⟩ | ⟨e, _⟩
    · exact h.l3 _ e
    · omega
  have hgw : w.heap.size ≤ g := (owns_blk ho _ rfl).1
  have hd := h.d
  have hbw := h.B.size
  have hB1 : Below w.heap.size w W1 := by
    rcases hc with ⟨_, k⟩ | ⟨_, k⟩
    · exact h.B.trans (k.below hgw h.B.size)
    · exact Below.next h.B k
  have hrow : ∀ {b : Nat} {o : Obj}, W.heap[b]? = some o → b ≠ g → W1.heap[b]? = some o := by
    intro b o hb hne
    rcases hc with ⟨_, k⟩ | ⟨_, k⟩
    · exact But.row k hb hne
    · exact row_next hb k
  have hA : Away b3 (y.addL l g cap) := by
    have hmem : ∀ c ∈ y.ls ++ [l], c ∈ y.ls ∨ c = l := fun c hc => by simpa using hc
    refine ⟨h.a3.f, h.a3.t, h.a3.m, fun _ a ha => (by cases ha; exact hg.1), fun c hc h0 a ha => ?_, h.a3.v⟩
    rcases hmem c hc with hc | rfl
    · exact h.a3.p c hc h0 a ha
    · have := h1 a ha; omega
  have hA4 : Away b4 (y.addL l g cap) := by
    have hmem : ∀ c ∈ y.ls ++ [l], c ∈ y.ls ∨ c = l := fun c hc => by simpa using hc
    refine ⟨h.a4.f, h.a4.t, h.a4.m, fun _ a ha => (by cases ha; exact hg.2.2), fun c hc h0 a ha => ?_, h.a4.v⟩
    rcases hmem c hc with hc | rfl
    · exact h.a4.p c hc h0 a ha
    · have := h1 a ha; omega
  have hA5 : ∀ b5, b5 < w.heap.size → Away b5 (y.addL l g cap) := by
    intro b5 hb5
    have hmem : ∀ c ∈ y.ls ++ [l], c ∈ y.ls ∨ c = l := fun c hc => by simpa using hc
    refine ⟨(h.a5 b5 hb5).f, (h.a5 b5 hb5).t, (h.a5 b5 hb5).m, fun _ a ha => (by cases ha; show g ≠ b5; omega), fun c hc h0 a ha => ?_, (h.a5 b5 hb5).v⟩
    rcases hmem c hc with hc | rfl
    · exact (h.a5 b5 hb5).p c hc h0 a ha
    · have := h1 a ha; omega
  exact ⟨hB1.trans (hb.below hd.2.2.1 hB1.size), But.row hb (hrow h.r1 (Ne.symm hg.2.1)) hd.2.2.2.1, But.row hb (hrow h.r4 (Ne.symm hg.2.2)) hd.2.2.2.2, hr,
    hC.but hb (fun a ha => (h.z3 a ha).1) (fun a ha => by cases ha; exact hg.1) hA, h.z3, fun a ha => by cases ha; exact hg, hA, hA4, hA5, h.e1, h.e2, h.e3, hd⟩

end Go.Proofs.Ytbjlbmofdnkmiaa

/-
  OWN TEXT. A heap without its row of lists, in memory.
-/
namespace Go.Proofs.Ytbjlbmofdnkmiaa
open Go Go.RowKit Go.Proofs.Ytbjlbmofdnkmiaa.Kit

/-- What a heap has besides its row of lists can be read. -/
structure HRest (w : World) (y : Hx) : Prop where
  zones : Zons w y.zo y.zn y.zs
  mins : Nums w y.mo y.mn y.mins
  live : Blks w y.vo y.vn y.live
  pages : ∀ l ∈ y.ls, Nums w l.po l.pn l.l.pages
/-- None of it lies in block b. -/
structure AwayL (b : Nat) (y : Hx) : Prop where
  z : 0 < y.zs.length → ∀ a, y.zo = some a → a.block ≠ b
  f : ∀ z ∈ y.zs, 0 < z.z.free.length → ∀ a, z.fo = some a → a.block ≠ b
  t : ∀ z ∈ y.zs, 0 < z.z.types.length → ∀ a, z.to_ = some a → a.block ≠ b
  m : 0 < y.mins.length → ∀ a, y.mo = some a → a.block ≠ b
  p : ∀ l ∈ y.ls, 0 < l.l.pages.length → ∀ a, l.po = some a → a.block ≠ b
  v : 0 < y.live.length → ∀ a, y.vo = some a → a.block ≠ b
theorem HRest.of {w : World} {y : Hx} (h : y.At w) : HRest w y := ⟨h.zones, h.mins, h.live, h.lists.at_⟩
theorem HRest.below {w w' : World} {y : Hx} (h : HRest w y) (hb : Below w.heap.size w w') : HRest w' y :=
  ⟨h.zones.below hb, h.mins.below hb, h.live.below hb, fun l hl => (h.pages l hl).below hb⟩
theorem zons_but {w w' : World} {b : Nat} {zo : Option Addr} {zn : Nat} {zs : List Zc} (h : Zons w zo zn zs) (hb : But b w w') (h0 : 0 < zs.length → ∀ a, zo = some a → a.block ≠ b)
    (h1 : ∀ z ∈ zs, 0 < z.z.free.length → ∀ a, z.fo = some a → a.block ≠ b) (h2 : ∀ z ∈ zs, 0 < z.z.types.length → ∀ a, z.to_ = some a → a.block ≠ b) : Zons w' zo zn zs := by
  refine ⟨h.len, h.reach, ?_, fun z hz => ⟨blks_but (h.at_ z hz).free hb (h1 z hz), nums_but (h.at_ z hz).types hb (h2 z hz)⟩⟩
  by_cases e : 0 < zs.length
  · exact h.cells.but hb (h0 e)
  · intro i hi; rw [List.length_map] at hi; omega
theorem HRest.but {w w' : World} {b : Nat} {y : Hx} (h : HRest w y) (a : AwayL b y) (hb : But b w w') : HRest w' y :=
  ⟨zons_but h.zones hb a.z a.f a.t, nums_but h.mins hb a.m, blks_but h.live hb a.v, fun l hl => nums_but (h.pages l hl) hb (a.p l hl)⟩
/-- The same heap with another row of lists. -/
def Kit.Hx.withL (y : Hx) (ls : List Lc) (lo : Option Addr) (ln lc : Nat) : Hx := { y with ls := ls, lo := lo, ln := ln, lc := lc }
theorem at_withL {w : World} {y : Hx} (h : HRest w y) {base : Nat} {ls : List Lc} {lo : Option Addr} {ln lc : Nat} (own : w.ownsRow base 57 4 (.slice lo ln lc) ln (c4 (ls.map Lc.q))) (hr : ln * 48 ≤ 140737488351232)
    (hls : ∀ l ∈ ls, Nums w l.po l.pn l.l.pages) : (y.withL ls lo ln lc).At w :=
  ⟨h.zones, h.mins, ⟨by have := c4owns_len own; rw [List.length_map] at this; exact this, hr, c4_of_owns own, hls⟩, h.live⟩
theorem Kit.Bu2.then {g z : Nat} {w w' w'' : World} (h : Bu2 g z w w') (hb : Below w'.heap.size w' w'') : Bu2 g z w w'' := h.trans (Bu2.of_below hb)

theorem lc_one (ls : List Lc) : ∀ x ∈ ls.map Lc.q, x.One := by
  intro x hx
  obtain ⟨l, _, rfl⟩ := List.mem_map.1 hx
  exact ⟨rfl, rfl, rfl, rfl⟩
/-- slices.Delete at one list, whatever the slice. -/
theorem lDel_all (w : World) (base n cap i : Nat) (lo : Option Addr) (l : List Q4) (hi : i < n) (hn : n ≤ 300) (hl1 : ∀ x ∈ l, x.One) (own : w.ownsRow base 57 4 (.slice lo n cap) n (c4 l)) :
    Calls Try.prog 103 #[.slice lo n cap, .int .i64 i, .int .i64 ((i : Int) + 1)] w fun e w' => ∃ g, lo = some ⟨g, 0, none⟩ ∧ e = .returned (.slice lo (n - 1 : Nat) cap) ∧
      w'.ownsRow base 57 4 (.slice lo (n - 1) cap) (n - 1) (c4 (l.eraseIdx i)) ∧ But g w w' := by
  obtain ⟨N, rfl⟩ : ∃ N, n = N + 1 := ⟨n - 1, by omega⟩
  rcases own.2 with ⟨_, e2⟩ | ⟨g, cap', cur, e1, _⟩
  · omega
  · simp only [Value.slice.injEq] at e1
    obtain ⟨rfl, _, _⟩ := e1
    refine (lDel_any w base g N cap i l (by omega) (by omega) hl1 own).mono ?_
    rintro e w' ⟨rfl, h1, h2⟩
    exact ⟨g, rfl, rfl, h1, h2⟩

/-- Each owner has its place. -/
theorem at_exists {l : List Ls} (hr : RiseP l) (x : Ls) : ∃ i b, AtL l x i b := by
  have key : ∀ n, n ≤ l.length → (∀ j, j < n → aheadL (l.getD j .zero) x) ∨ ∃ i, i < n ∧ (∀ j, j < i → aheadL (l.getD j .zero) x) ∧ ¬ aheadL (l.getD i .zero) x := by
    intro n
    induction n with
    | zero => intro _; exact .inl fun j hj => absurd hj (Nat.not_lt_zero j)
    | succ n ih =>
      intro hn
      rcases ih (by omega) with h | ⟨i, hi, h1, h2⟩
      · by_cases e : aheadL (l.getD n .zero) x
        · refine .inl fun j hj => ?_
          by_cases ej : j = n
          · subst ej; exact e
          · exact h j (by omega)
        · exact .inr ⟨n, by omega, h, e⟩
      · exact .inr ⟨i, by omega, h1, h2⟩
  rcases key l.length (Nat.le_refl _) with h | ⟨i, hi, h1, h2⟩
  · exact ⟨l.length, false, Nat.le_refl _, h, fun j h1 h2 => by omega, by simp⟩
  · refine ⟨i, decide ((l.getD i .zero).c = x.c ∧ (l.getD i .zero).z = x.z ∧ (l.getD i .zero).t = x.t), by omega, h1, fun j hj hl h => ?_, by simp [hi]⟩
    by_cases e : i = j
    · subst e; exact h2 h
    · exact h2 (ahead_trans (rise_lt hr (by omega) hl) h)
theorem at_unique {l : List Ls} {x : Ls} {i j : Nat} {b c : Bool} (h : AtL l x i b) (k : AtL l x j c) : i = j ∧ b = c := by
  have e : i = j := by
    rcases Nat.lt_trichotomy i j with g | g | g
    · exact absurd (k.2.1 i g) (h.2.2.1 i (Nat.le_refl _) (by have := k.1; omega))
    · exact g
    · exact absurd (h.2.1 j g) (k.2.2.1 j (Nat.le_refl _) (by have := h.1; omega))
  subst e
  refine ⟨rfl, ?_⟩
  rw [Bool.eq_iff_iff, h.2.2.2, k.2.2.2]
theorem pListAt_c (w : World) (y : Hx) (x : Ls) (pv : Value) (hy : y.At w) (hord : RiseL y.ls) {i : Nat} {b : Bool} (hA : AtL y.hp.lists x i b) :
    Calls Try.prog 86 #[.agg #[.slice y.zo y.zn y.zc, .slice y.mo y.mn y.mc, .int .i64 y.cpus, .slice y.lo y.ln y.lc, .slice y.vo y.vn y.vc], .agg #[.int .i64 x.c, .int .i64 x.z, .int .i64 x.t, pv]] w fun e w' => e = .returned (.tuple #[.int .i64 (i : Nat), .bool b]) ∧ Below w.heap.size w w' := by
  refine (pListAt_any w y x pv hy hord).mono ?_
  rintro e w' ⟨⟨j, c, rfl, hk⟩, hb⟩
  obtain ⟨rfl, rfl⟩ := at_unique hA hk
  exact ⟨rfl, hb⟩

end Go.Proofs.Ytbjlbmofdnkmiaa

/-
  OWN TEXT. A region that draws its order and whose operations make memory: each keeps what the others made; over whatever program.
-/
namespace Go.Proofs.Ytbjlbmofdnkmiaa.Kit
open Go Go.RowKit

theorem Fr.more {A : Act} {N d : Nat} {L : List (Nat × Value)} {v : Value} (f : Fr A N L) (h : A.tmps.getD d undef = v) : Fr A N ((d, v) :: L) := by
  refine ⟨f.size, f.defs, fun i u g => ?_⟩
  unfold look at g
  cases hb : Nat.beq d i with
  | true =>
    simp only [hb, cond_true, Option.some.injEq] at g
    have e := Nat.eq_of_beq_eq_true hb
    subst e
    rw [h, g]
  | false =>
    simp only [hb, cond_false] at g
    exact f.at_ i u g
theorem Fr.off {A : Act} {N d : Nat} {L : List (Nat × Value)} (f : Fr A N L) (v : Value) (hd : d < N) (h : look L d = none) : Fr (A.put (some d) v) N L := by
  have g := f.put d v hd
  refine ⟨g.size, g.defs, fun i u hi => g.at_ i u ?_⟩
  unfold look
  cases hb : Nat.beq d i with
  | true =>
    have e := Nat.eq_of_beq_eq_true hb
    subst e
    rw [h] at hi
    cases hi
  | false => simpa [hb] using hi

abbrev VW := Value → List Value → World → Prop
def rOf (Rs : List VW) (j : Nat) (v : Value) (vs : List Value) (w : World) : Prop :=
  match Rs[j]? with
  | some r => r v vs w
  | none => True
def blkOf : Value → Option Nat
  | .slice (some a) _ _ => some a.block
  | .pointer (some a) => some a.block
  | _ => none
/-- The slot of operation j. -/
def slotV (l : List Oper) (a : Act) (j : Nat) : Value := a.tmps.getD (((l[j]?).bind (·.dst)).getD 0) undef
/-- In which block lies what the fresh operation j made. -/
def slotB (l : List Oper) (Fs : List Nat) (a : Act) (j : Nat) : Option Nat := bif memN Fs j then blkOf (slotV l a j) else none

/-- Operation i, whose slot is d. -/
def okB (l : List Oper) (L0 : List (Nat × Value)) (N i : Nat) : Bool :=
  match l[i]? with
  | some o => match o.dst with
    | some d => o.guard.isNone && Nat.blt d N && (look L0 d).isNone && (o.after.all fun e => !Region.binds .any e || decide (e.on < i)) && (List.range i).all fun j => !(((l[j]?).bind (·.dst)) == some d)
    | none => false
  | none => false
def growB (l : List Oper) (L0 : List (Nat × Value)) (N : Nat) : Bool := (List.range l.length).all (okB l L0 N)
def depsOf (o : Oper) : List Nat := (o.after.toList.filter (Region.binds .any)).map (·.on)
def depsAt (l : List Oper) (j : Nat) : List Nat :=
  match l[j]? with
  | some o => depsOf o
  | none => []
def allP (Φ : Nat → Prop) : List Nat → Prop
  | [] => True
  | j :: r => Φ j ∧ allP Φ r
theorem allP_of {Φ : Nat → Prop} : ∀ (l : List Nat), (∀ j ∈ l, Φ j) → allP Φ l
  | [], _ => trivial
  | j :: r, h => ⟨h j List.mem_cons_self, allP_of r fun k hk => h k (List.mem_cons_of_mem _ hk)⟩
def allO (Φ : Nat → Oper → Prop) : Nat → List Oper → Prop
  | _, [] => True
  | k, o :: r => Φ k o ∧ allO Φ (k + 1) r
theorem allO_at {Φ : Nat → Oper → Prop} : ∀ (l : List Oper) (k : Nat), allO Φ k l → ∀ i o, l[i]? = some o → Φ (k + i) o
  | [], _, _, i, o, h => by simp at h
  | p :: r, k, h, 0, o, g => by simp at g; subst g; exact h.1
  | p :: r, k, h, i + 1, o, g => by
    have := allO_at r (k + 1) h.2 i o (by simpa using g)
    rw [show k + (i + 1) = k + 1 + i by omega]; exact this

section
variable {P : Program} {l : List Oper} {Q : Exit → Act → World → Prop} {S : World → Prop} {N : Nat} {L0 : List (Nat × Value)} {Rs : List VW} {Fs : List Nat}

/-- What one operation must do. -/
def stepG' (P : Program) (l : List Oper) (Q : Exit → Act → World → Prop) (S : World → Prop) (N : Nat) (L0 : List (Nat × Value)) (Rs : List VW) (Fs : List Nat) (i : Nat) (o : Oper) : Prop :=
  ∀ a w, S w → Fr a N L0 → allP (fun j => rOf Rs j (slotV l a j) ((depsAt l j).map (slotV l a)) w) (depsOf o) →
    ∀ K : Act → World → Prop, (∀ v w', Below w.heap.size w w' → rOf Rs i v ((depsOf o).map (slotV l a)) w' → (∀ b, (bif memN Fs i then blkOf v else none) = some b → w.heap.size ≤ b ∧ b < w'.heap.size) → K (a.put o.dst v) w') → o.wp P a w K Q

structure GI (S : World → Prop) (N : Nat) (L0 : List (Nat × Value)) (l : List Oper) (Rs : List VW) (Fs : List Nat) (listed : Array Bool) (a : Act) (w : World) : Prop where
  s : S w
  f : Fr a N L0
  r : ∀ j, listed.getD j false = true → rOf Rs j (slotV l a j) ((depsAt l j).map (slotV l a)) w
  c : ∀ j, listed.getD j false = true → ∀ k ∈ depsAt l j, listed.getD k false = true
  b : ∀ j b, listed.getD j false = true → slotB l Fs a j = some b → b < w.heap.size
  d : ∀ j k b c, listed.getD j false = true → listed.getD k false = true → j ≠ k → slotB l Fs a j = some b → slotB l Fs a k = some c → b ≠ c

theorem ok_spec (hB : growB l L0 N = true) {i : Nat} (hi : i < l.length) : ∃ o d, l[i]? = some o ∧ o.dst = some d ∧ o.guard = none ∧ d < N ∧ look L0 d = none ∧ (∀ e ∈ o.after, Region.binds .any e = true → e.on < i) ∧ ∀ j, j < i → (l[j]?).bind (·.dst) ≠ some d := by
  have h := List.all_eq_true.1 hB i (List.mem_range.2 hi)
  unfold okB at h
  have ho : l[i]? = some l[i] := List.getElem?_eq_getElem hi
  rw [ho] at h
  simp only at h
  cases hd : (l[i]).dst with
  | none => rw [hd] at h; cases h
  | some d =>
    rw [hd] at h
    simp only [Bool.and_eq_true, Option.isNone_iff_eq_none, Nat.blt_eq] at h
    obtain ⟨⟨⟨⟨h1, h2⟩, h3⟩, h4⟩, h5⟩ := h
    refine ⟨_, d, ho, hd, h1, h2, h3, fun e he hb => ?_, fun j hj => ?_⟩
    · have := (Array.all_eq_true'.1 h4) e he
      simpa [hb] using this
    · have := List.all_eq_true.1 h5 j (List.mem_range.2 hj)
      simpa using this
theorem slot_ne (hB : growB l L0 N = true) {i j d : Nat} {o : Oper} (hi : l[i]? = some o) (hd : o.dst = some d) (hj : j < l.length) (hne : j ≠ i) (a : Act) (v : Value) : slotV l (a.put (some d) v) j = slotV l a j := by
  have hil : i < l.length := (List.getElem?_eq_some_iff.1 hi).1
  obtain ⟨oj, dj, hoj, hdj, _, _, _, _, hej⟩ := ok_spec hB hj
  obtain ⟨oi, di, hoi, hdi, _, _, _, _, hei⟩ := ok_spec hB hil
  rw [hi] at hoi
  cases hoi
  rw [hd] at hdi
  cases hdi
  have hdd : dj ≠ d := by
    intro e
    subst e
    rcases Nat.lt_or_gt_of_ne hne with h | h
    · exact hei j h (by rw [hoj]; exact hdj)
    · exact hej i h (by rw [hi]; exact hd)
  unfold slotV
  rw [hoj]
  simp only [Option.bind_some, hdj, Option.getD_some]
  simp [Act.put, Array.getD_eq_getD_getElem?, Ne.symm hdd]
theorem slot_eq {a : Act} {i d : Nat} {o : Oper} (f : Fr a N L0) (hi : l[i]? = some o) (hd : o.dst = some d) (hN : d < N) (v : Value) : slotV l (a.put (some d) v) i = v := by
  unfold slotV
  rw [hi]
  have hs := f.size
  simp [hd, Act.put, Array.getD_eq_getD_getElem?, hs, hN]

theorem all_of_empty' (hB : growB l L0 N = true) {listed : Array Bool} (hl : listed.size = l.length) (hr : Region.ready .any l.toArray listed = []) : ∀ i, i < l.length → listed.getD i false = true := by
  intro i
  induction i using Nat.strongRecOn with
  | _ i ih =>
    intro hi
    cases hg : listed.getD i false with
    | true => rfl
    | false =>
      exfalso
      obtain ⟨o, d, ho, _, _, _, _, he, _⟩ := ok_spec hB hi
      have hm : i ∈ Region.ready .any l.toArray listed := by
        rw [mem_ready]
        refine ⟨o, by simpa using ho, ?_, fun e hm hb => ?_⟩
        · simp only [Array.getD_eq_getD_getElem?, Array.getElem?_eq_getElem (show i < listed.size by omega), Option.getD_some] at hg ⊢
          exact hg
        · have := he e hm hb
          exact ih e.on this (by omega)
      rw [hr] at hm
      cases hm

def leftN (l : Array Bool) : Nat := l.toList.countP (fun b => !b)
theorem leftN_set {l : Array Bool} {i : Nat} (hi : l[i]? = some false) : leftN (l.setIfInBounds i true) + 1 = leftN l := by
  rcases l with ⟨l⟩
  have hi' : l[i]? = some false := by simpa using hi
  unfold leftN
  simp only [List.setIfInBounds_toArray]
  clear hi
  induction l generalizing i with
  | nil => simp at hi'
  | cons b l ih =>
    cases i with
    | zero =>
      simp only [List.getElem?_cons_zero, Option.some.injEq] at hi'
      subst hi'
      simp
    | succ i =>
      have := ih (by simpa using hi')
      simp only [List.set_cons_succ, List.countP_cons]
      omega
theorem getD_set_eq {l : Array Bool} {i : Nat} (h : i < l.size) (d : Bool) : (l.setIfInBounds i true).getD i d = true := by
  simp [Array.getD_eq_getD_getElem?, h]
theorem getD_set_other {l : Array Bool} {i j : Nat} (h : i ≠ j) (d : Bool) : (l.setIfInBounds i true).getD j d = l.getD j d := by
  simp [Array.getD_eq_getD_getElem?, h]

theorem wpAny_grow (hB : growB l L0 N = true) (hS : ∀ w w', S w → Below w.heap.size w w' → S w') (hR : ∀ j v vs w w', rOf Rs j v vs w → Below w.heap.size w w' → rOf Rs j v vs w')
    (hop : ∀ i o, l[i]? = some o → stepG' P l Q S N L0 Rs Fs i o)
    (hend : ∀ a w, GI S N L0 l Rs Fs (Array.replicate l.length true) a w → Q .normal a w) :
    ∀ (fuel : Nat) (listed : Array Bool) (a : Act) (w : World), listed.size = l.length → leftN listed ≤ fuel → GI S N L0 l Rs Fs listed a w → wpAny P .any l.toArray Q fuel listed a w := by
  have hfin : ∀ (listed : Array Bool) (a : Act) (w : World), listed.size = l.length → GI S N L0 l Rs Fs listed a w → Region.ready .any l.toArray listed = [] → Q .normal a w := by
    intro listed a w hl hI hr
    have hall := all_of_empty' hB hl hr
    have : listed = Array.replicate l.length true := by
      apply Array.ext_getElem?
      intro i
      by_cases hi : i < l.length
      · have := hall i hi
        simp only [Array.getD_eq_getD_getElem?, Array.getElem?_eq_getElem (show i < listed.size by omega), Option.getD_some] at this
        rw [Array.getElem?_eq_getElem (by omega), this]
        simp [hi]
      · rw [Array.getElem?_eq_none (by omega), Array.getElem?_eq_none (by simp; omega)]
    subst this
    exact hend a w hI
  have hstep : ∀ (listed : Array Bool) (a : Act) (w : World) (i : Nat), listed.size = l.length → GI S N L0 l Rs Fs listed a w → i ∈ Region.ready .any l.toArray listed →
      listed[i]? = some false ∧ ∀ K : Act → World → Prop, (∀ a' w', GI S N L0 l Rs Fs (listed.setIfInBounds i true) a' w' → K a' w') → wpOp P l.toArray Q i K a w := by
    intro listed a w i hl hI hi
    obtain ⟨o, ho, hun, hdep⟩ := mem_ready.1 hi
    have ho' : l[i]? = some o := by simpa using ho
    have hil : i < l.length := (List.getElem?_eq_some_iff.1 ho').1
    obtain ⟨o2, d, ho2, hd, hg, hN, hlk, _, _⟩ := ok_spec hB hil
    rw [ho'] at ho2
    cases ho2
    have hfal : listed[i]? = some false := by
      simp only [Array.getD_eq_getD_getElem?, Array.getElem?_eq_getElem (show i < listed.size by omega), Option.getD_some] at hun ⊢
      rw [hun]
    refine ⟨hfal, fun K hK => ?_⟩
    unfold wpOp
    rw [ho]
    simp only
    rw [if_pos (by simp [Region.wanted, hg])]
    left
    refine hop i o ho' a w hI.s hI.f (allP_of _ fun j hj => ?_) K ?_
    · unfold depsOf at hj
      simp only [List.mem_map, List.mem_filter, Array.mem_toList_iff] at hj
      obtain ⟨e, ⟨he, hb⟩, rfl⟩ := hj
      exact hI.r _ (hdep e he hb)
    · intro v w' hbw hrv hbk
      refine hK _ _ ?_
      rw [hd]
      have hun' : listed.getD i false = false := by simp [Array.getD_eq_getD_getElem?, hfal]
      have hne : ∀ j, (listed.setIfInBounds i true).getD j false = true → j ≠ i → listed.getD j false = true ∧ j < l.length := by
        intro j hj hji
        rw [getD_set_other (Ne.symm hji)] at hj
        refine ⟨hj, ?_⟩
        by_cases h : j < l.length
        · exact h
        · rw [Array.getD_eq_getD_getElem?, Array.getElem?_eq_none (by omega)] at hj
          cases hj
      have hsv := slot_eq (l := l) hI.f ho' hd hN v
      have hso : ∀ j, j < l.length → j ≠ i → slotV l (a.put (some d) v) j = slotV l a j := fun j h1 h2 => slot_ne hB ho' hd h1 h2 a v
      have hdl : ∀ k ∈ depsAt l i, listed.getD k false = true := by
        intro k hk
        unfold depsAt at hk
        rw [ho'] at hk
        simp only [depsOf, List.mem_map, List.mem_filter, Array.mem_toList_iff] at hk
        obtain ⟨e, ⟨he, hb⟩, rfl⟩ := hk
        exact hdep e he hb
      have hlt : ∀ k, listed.getD k false = true → k < l.length := by
        intro k hk
        by_cases h : k < l.length
        · exact h
        · rw [Array.getD_eq_getD_getElem?, Array.getElem?_eq_none (by omega)] at hk
          cases hk
      have hmap : ∀ j, (∀ k ∈ depsAt l j, listed.getD k false = true) → (depsAt l j).map (slotV l (a.put (some d) v)) = (depsAt l j).map (slotV l a) := by
        intro j hj
        refine List.map_congr_left fun k hk => ?_
        have hkl := hj k hk
        refine hso k (hlt k hkl) ?_
        intro e
        rw [e, hun'] at hkl
        cases hkl
      refine ⟨hS _ _ hI.s hbw, hI.f.off v hN hlk, fun j hj => ?_, fun j hj k hk => ?_, fun j b hj hb => ?_, fun j k b c hj hk hjk hb hc => ?_⟩
      · by_cases e : j = i
        · subst e
          rw [hsv, hmap _ hdl]
          unfold depsAt
          rw [ho']
          exact hrv
        · obtain ⟨h1, h2⟩ := hne j hj e
          rw [hso j h2 e, hmap j (hI.c j h1)]
          exact hR _ _ _ _ _ (hI.r j h1) hbw
      · by_cases e : k = i
        · rw [e]; exact getD_set_eq (by omega) false
        · rw [getD_set_other (Ne.symm e)]
          by_cases e' : j = i
          · rw [e'] at hk; exact hdl k hk
          · exact hI.c j (hne j hj e').1 k hk
      · unfold slotB at hb
        by_cases e : j = i
        · subst e; rw [hsv] at hb; exact (hbk b hb).2
        · obtain ⟨h1, h2⟩ := hne j hj e
          rw [hso j h2 e] at hb
          have := hI.b j b h1 hb
          have := hbw.size
          omega
      · unfold slotB at hb hc
        by_cases e : j = i
        · subst e
          rw [hsv] at hb
          obtain ⟨h1, h2⟩ := hne k hk (Ne.symm hjk)
          rw [hso k h2 (Ne.symm hjk)] at hc
          have h3 := (hbk b hb).1
          have h4 := hI.b k c h1 hc
          omega
        · obtain ⟨h1, h2⟩ := hne j hj e
          rw [hso j h2 e] at hb
          by_cases e' : k = i
          · subst e'
            rw [hsv] at hc
            have h3 := (hbk c hc).1
            have h4 := hI.b j b h1 hb
            omega
          · obtain ⟨h5, h6⟩ := hne k hk e'
            rw [hso k h6 e'] at hc
            exact hI.d j k b c h1 h5 hjk hb hc
  intro fuel
  induction fuel with
  | zero =>
    intro listed a w hl hc hI
    have hr : Region.ready .any l.toArray listed = [] := by
      rw [List.eq_nil_iff_forall_not_mem]
      intro i hi
      have := leftN_set (hstep listed a w i hl hI hi).1
      omega
    exact ⟨hr, hfin listed a w hl hI hr⟩
  | succ n ih =>
    intro listed a w hl hc hI
    refine ⟨fun hr => hfin listed a w hl hI hr, fun i hi => ?_⟩
    obtain ⟨h1, h2⟩ := hstep listed a w i hl hI hi
    refine h2 _ fun a' w' hI' => ih _ a' w' (by simpa using hl) ?_ hI'
    have := leftN_set h1
    omega

theorem gi_start {A : Act} {w : World} (f : Fr A N L0) (hs : S w) : GI S N L0 l Rs Fs (Array.replicate l.length false) A w := by
  have hno : ∀ j, (Array.replicate l.length false).getD j false = false := by
    intro j
    by_cases h : j < l.length <;> simp [Array.getD_eq_getD_getElem?, h]
  exact ⟨hs, f, fun j hj => False.elim (by rw [hno] at hj; cases hj), fun j hj => False.elim (by rw [hno] at hj; cases hj), fun j b hj => False.elim (by rw [hno] at hj; cases hj), fun j k b c hj => False.elim (by rw [hno] at hj; cases hj)⟩

theorem left_start (n : Nat) : leftN (Array.replicate n false) ≤ n := by
  unfold leftN
  have := List.countP_le_length (p := fun b => !b) (l := (Array.replicate n false).toList)
  simpa using this

/-- The region. -/
theorem sx_grow {id : Nat} {A : Act} {w : World} (Rs : List VW) (Fs : List Nat) (S : World → Prop) (f : Fr A N L0) (hm : P.follows .mixedOrders = true) (hB : growB l L0 N = true) (hS : ∀ w w', S w → Below w.heap.size w w' → S w') (hR : ∀ j v vs w w', rOf Rs j v vs w → Below w.heap.size w w' → rOf Rs j v vs w')
    (h0 : S { w with drawn := w.drawn + 1 }) (hop : allO (stepG' P l Q S N L0 Rs Fs) 0 l)
    (hend : ∀ a w, GI S N L0 l Rs Fs (Array.replicate l.length true) a w → Q .normal a w) : (Code.region id l.toArray true).wp P Q A w := by
  refine wp_region_any hm ?_
  have := wpAny_grow hB hS hR (fun i o hi => by have := allO_at l 0 hop i o hi; rwa [Nat.zero_add] at this) hend l.toArray.size (Array.replicate l.length false) A { w with drawn := w.drawn + 1 } (by simp) (by simpa using left_start l.length) (gi_start f h0)
  simpa using this
/-- The region, its last operation waits for all others. -/
theorem sx_growl {id n : Nat} {o : Oper} {A : Act} {w : World} (Rs : List VW) (Fs : List Nat) (S : World → Prop) (f : Fr A N L0) (hm : P.follows .mixedOrders = true) (hp : peelB .any l n = true) (ho : l[n]? = some o) (hB : growB (l.take n) L0 N = true) (hS : ∀ w w', S w → Below w.heap.size w w' → S w') (hR : ∀ j v vs w w', rOf Rs j v vs w → Below w.heap.size w w' → rOf Rs j v vs w')
    (h0 : S { w with drawn := w.drawn + 1 }) (hop : allO (stepG' P (l.take n) (lastQ P o Q) S N L0 Rs Fs) 0 (l.take n))
    (hend : ∀ a w, GI S N L0 (l.take n) Rs Fs (Array.replicate (l.take n).length true) a w → lastQ P o Q .normal a w) : (Code.region id l.toArray true).wp P Q A w := by
  refine wp_region_any hm ?_
  have h1 := (peel_spec hp).1
  have hn : (l.take n).length = n := by simp; omega
  have hg := wpAny_grow (P := P) (Q := lastQ P o Q) hB hS hR (fun i o hi => by have := allO_at (l.take n) 0 hop i o hi; rwa [Nat.zero_add] at this) hend n (Array.replicate n false) A { w with drawn := w.drawn + 1 } (by simp [hn]) (left_start n) (by have := gi_start (l := l.take n) (Rs := Rs) (Fs := Fs) f h0; rwa [hn] at this)
  have := wpAny_peel hp ho n (Array.replicate n false) A { w with drawn := w.drawn + 1 } (by simp) (fun j oj hj _ hg => by simp [Array.getD_eq_getD_getElem?, hj] at hg) hg
  have e : (Array.replicate n false).push false = Array.replicate l.toArray.size false := by
    rw [List.size_toArray, h1, Array.replicate_succ]
  rw [e] at this
  rw [List.size_toArray, h1]
  rw [List.size_toArray, h1] at this
  exact this
/-! One operation. -/
variable {a : Act} {w : World} {L : List (Nat × Value)} {o : Oper} {K : Act → World → Prop}
theorem g_val {v : Value} (f : Fr a N L) (hy : YC P (ClB w) L o v) (h : K (a.put o.dst v) w) : o.wp P a w K Q := by
  unfold Oper.wp
  rw [hy a.eval (fun x u hu => f.ev hu) w (Below.refl _ _), Oper.upon_value]
  exact h
theorem g_call {g : FuncId} {args : List Value} {R : Ending → World → Prop} (f : Fr a N L) (hc : IsCall L o g args) (hp : Plain P g) (hR : Calls P g args.toArray w R) (h : ∀ e w', R e w' → ∃ v, e = .returned v ∧ K (a.put o.dst v) w') : o.wp P a w K Q := by
  unfold Oper.wp
  rw [hc.run hp (fun x u hu => f.ev hu) w, Oper.upon_enter]
  refine hR.mono fun e w' he => ?_
  obtain ⟨v, rfl, hk⟩ := h e w' he
  exact hk
theorem g_alloc {t : TypeId} {z : Value} (ho : o.op = .alloc t) (hz : (P.info? t).map (·.zero) = some (some z))
    (h : ∀ b W, w.heap.size = b → Below w.heap.size w W → W.heap[b]? = some (.cells z.cells t (0, 0)) → K (a.put o.dst (.pointer (some ⟨b, 0, none⟩))) W) : o.wp P a w K Q := by
  simp only [Option.map_eq_some_iff] at hz
  obtain ⟨inf, hi, he⟩ := hz
  have hzv : (zeroValue t).run P w = .ok z w := by
    unfold zeroValue typeInfo
    simp [go_sem, hi, he]
  unfold Oper.wp
  have hr : (execOp a.eval o).run P w = .ok (.value (.pointer (some ⟨w.heap.size, 0, none⟩))) (w.alloc (.cells z.cells t)) := by
    simp [execOp, ho, Instr.alloc, newVar, newRow, go_sem, hzv]
  rw [hr, Oper.upon_value]
  exact h _ _ rfl ((Below.refl w.heap.size w).alloc (Nat.le_refl _) _) (by show (w.heap.push _)[w.heap.size]? = _; rw [Array.getElem?_push, if_pos rfl])
theorem g_store {t tt : TypeId} {x y : Operand} {b off n : Nat} {v : Value} {cs : List Value} (f : Fr a N L) (hd : o.dst = none) (ho : o.op = .store t x y) (hx : ev L x = some (.pointer (some ⟨b, off, none⟩))) (hy : ev L y = some v)
    (hrow : w.heap[b]? = some (.cells cs.toArray tt (0, 0))) (hs : szB P t = some n) (hn : v.cells.size = n) (hf : off + n ≤ cs.length) (h1 : (v.cells.toList.all (·.oneCell')) = true)
    (h : ∀ W, But b w W → W.heap[b]? = some (.cells (setL cs off v.cells.toList).toArray tt (0, 0)) → K a W) : o.wp P a w K Q := by
  obtain ⟨W, hr, hb, hw'⟩ := store_run (P := P) f ho hx hy hrow hs hn hf h1
  unfold Oper.wp
  rw [hr, Oper.upon_skip, hd]
  exact h W hb hw'
theorem rs_all {Rs : List VW} (h : ∀ r ∈ Rs, ∀ v vs w w', r v vs w → Below w.heap.size w w' → r v vs w') : ∀ j v vs w w', rOf Rs j v vs w → Below w.heap.size w w' → rOf Rs j v vs w' := by
  intro j v vs w w' hr hb
  unfold rOf at hr ⊢
  cases hj : Rs[j]? with
  | none => trivial
  | some r =>
    rw [hj] at hr
    exact h r (List.mem_of_getElem? hj) v vs w w' hr hb
end
end Go.Proofs.Ytbjlbmofdnkmiaa.Kit
