/-
  OWN TEXTS, bundled: HcCheck, Sxh, Sxs, SxT, RefI, SxK, HcZi, ZMayB.
-/
import Derived.Test.YtbjlbmofdnkmiaaPagesFreesPart9
import Derived.Test.YtbjlbmofdnkmiaaPagesFreesPart6
import Derived.Test.YtbjlbmofdnkmiaaPagesFreesPart7
import Derived.Test.YtbjlbmofdnkmiaaPagesFreesPart1
import Derived.Test.YtbjlbmofdnkmiaaChecked

/-
  OWN TEXT. Contracts of the code: pages.Check.
-/
namespace Go.Proofs.Ytbjlbmofdnkmiaa
open Go Go.RowKit Go.Proofs.Ytbjlbmofdnkmiaa.Kit

theorem lss_to {x : Hx} (hw : ∃ w, x.At w) (hz : ZsOk x.hp) (h : LssOk x.hp) : LssOkX x := by
  obtain ⟨w, hx⟩ := hw
  have e1 : x.hp.lists.length = x.ln := by show (x.ls.map _).length = _; rw [List.length_map]; exact hx.lists.len
  have e2 : x.zn = 2 := by have := hz.n; have e : x.hp.zones.length = x.zn := by show (x.zs.map _).length = _; rw [List.length_map]; exact hx.zones.len
                           omega
  refine ⟨fun i hi => ?_, fun i h0 hi => ?_⟩
  · have := h.ok i (by omega)
    rw [listOf_hp] at this
    have hc := this.c
    have hp := this.p
    rw [zoneOf_hp] at hp
    exact ⟨⟨hc.1, by have : x.hp.cpus = x.cpus := rfl; omega⟩, by have := this.z; omega, this.t, this.n, hp⟩
  · have := h.ord i h0 (by omega)
    rw [listOf_hp, listOf_hp] at this
    exact this
theorem lss_of {x : Hx} (hw : ∃ w, x.At w) (hz : ZsOk x.hp) (h : LssOkX x) : LssOk x.hp := by
  obtain ⟨w, hx⟩ := hw
  have e1 : x.hp.lists.length = x.ln := by show (x.ls.map _).length = _; rw [List.length_map]; exact hx.lists.len
  have e2 : x.zn = 2 := by have := hz.n; have e : x.hp.zones.length = x.zn := by show (x.zs.map _).length = _; rw [List.length_map]; exact hx.zones.len
                           omega
  refine ⟨fun i hi => ?_, fun i h0 hi => ?_⟩
  · have := h.ok i (by omega)
    rw [listOf_hp]
    have hc := this.c
    have hp := this.p
    exact ⟨⟨hc.1, by have : x.hp.cpus = x.cpus := rfl; omega⟩, by have := this.z; omega, this.t, this.n, by rw [zoneOf_hp]; exact hp⟩
  · have := h.ord i h0 (by omega)
    rw [listOf_hp, listOf_hp]
    exact this

theorem free_inP {z : Zn} (h : ZMay z) (i : Nat) (hi : i < z.free.length) : InP (z.free.getD i .zero) := by
  have hb := (freeOk_at h.free hi rfl).1
  obtain ⟨n1, n2, n3, n4, n5⟩ := h.new
  obtain ⟨o, b1, b2, b3⟩ := hb
  refine ⟨o, by omega, ?_⟩
  rcases ord_cases o with ⟨e, q⟩ | ⟨e, q⟩ | ⟨e, q⟩ | ⟨e, q⟩ | ⟨e, q⟩ <;> rw [q] at b3 ⊢ <;> omega
theorem two_zones {x : Hx} (hz : ZsOk x.hp) : ∀ z ∈ x.zs, z = x.zs.getD 0 .zero ∨ z = x.zs.getD 1 .zero := by
  intro z hm
  have hn : x.zs.length = 2 := by have := hz.n; have e : x.hp.zones.length = x.zs.length := by show (x.zs.map _).length = _; rw [List.length_map]
                                  omega
  obtain ⟨i, hi, rfl⟩ := List.getElem_of_mem hm
  rcases (show i = 0 ∨ i = 1 by omega) with rfl | rfl
  · left; rw [List.getD_eq_getElem?_getD, List.getElem?_eq_getElem hi]; rfl
  · right; rw [List.getD_eq_getElem?_getD, List.getElem?_eq_getElem hi]; rfl
theorem free_in {x : Hx} (hz : ZsOk x.hp) : ∀ z ∈ x.zs, ∀ i, i < z.z.free.length → InP (z.z.free.getD i .zero) := by
  intro z hm i hi
  have h0 := hz.m0
  have h1 := hz.m1
  rw [zoneOf_hp] at h0 h1
  rcases two_zones hz z hm with rfl | rfl
  · exact free_inP h0 i hi
  · exact free_inP h1 i hi
theorem page_inL {x : Hx} (hz : ZsOk x.hp) (hl : LssOk x.hp) : ∀ l ∈ x.ls, ∀ i, i < l.l.pages.length → 0 ≤ l.l.pages.getD i 0 ∧ l.l.pages.getD i 0 < 256 := by
  intro l hm i hi
  obtain ⟨k, hk, rfl⟩ := List.getElem_of_mem hm
  have h := hl.ok k (by show k < (x.ls.map _).length; rw [List.length_map]; exact hk)
  rw [listOf_hp] at h
  have e : x.ls.getD k .zero = x.ls[k] := by rw [List.getD_eq_getElem?_getD, List.getElem?_eq_getElem hk]; rfl
  rw [e] at h
  have hp := h.p i hi
  have hzz := h.z
  have h0 := hz.m0.new
  have h1 := hz.m1.new
  have f0 := hz.f0
  have f1 := hz.f1
  have t1 := hz.t1
  obtain ⟨a1, a2, a3, _, _⟩ := h0
  obtain ⟨b1, b2, b3, _, _⟩ := h1
  rcases (show x.ls[k].l.z.toNat = 0 ∨ x.ls[k].l.z.toNat = 1 by omega) with q | q
  · rw [q] at hp; omega
  · rw [q] at hp; omega
theorem live_in {l : List Bk} (h : LvsOk l) : ∀ i, i < l.length → InP (l.getD i .zero) := fun i hi => (h.ok i hi).inP

set_option maxRecDepth 4000 in
set_option maxHeartbeats 4000000 in
theorem pCheck_any (w : World) (x : Hx) (hx : x.At w) :
    Calls Try.prog 11 #[.agg #[.slice x.zo x.zn x.zc, .slice x.mo x.mn x.mc, .int .i64 x.cpus, .slice x.lo x.ln x.lc, .slice x.vo x.vn x.vc]] w fun e w' => (∃ c, e = .returned (.int .i64 c) ∧ (c = 0 ∧ HMay x.hp ∨ c = 8 ∧ ¬ HMay x.hp)) ∧ Below w.heap.size w w' := by
  have hex : ∃ w, x.At w := ⟨w, hx⟩
  have hb1 := below_box w (.cells #[.slice x.zo x.zn x.zc, .slice x.mo x.mn x.mc, .int .i64 x.cpus, .slice x.lo x.ln x.lc, .slice x.vo x.vn x.vc] 28)
  have A1 := hbox_new w (.slice x.zo x.zn x.zc) (.slice x.mo x.mn x.mc) (.int .i64 x.cpus) (.slice x.lo x.ln x.lc) (.slice x.vo x.vn x.vc) 28
  obtain ⟨W0, hW0⟩ : ∃ W0, w.alloc (.cells #[.slice x.zo x.zn x.zc, .slice x.mo x.mn x.mc, .int .i64 x.cpus, .slice x.lo x.ln x.lc, .slice x.vo x.vn x.vc] 28) = W0 := ⟨_, rfl⟩
  rw [hW0] at A1 hb1
  have HW0 : Hid _ := hW0
  clear hW0
  replace hx := hx.below hb1
  have HNo : Hid (∀ e, (e = Ending.returned (.int .i64 8)) → ¬ HMay x.hp → (∃ c, e = .returned (.int .i64 c) ∧ (c = 0 ∧ HMay x.hp ∨ c = 8 ∧ ¬ HMay x.hp))) := fun e he hn => ⟨8, he, .inr ⟨rfl, hn⟩⟩
  have HX0 := pZonesMay_any W0 x hx
  have c0 := A1.c0
  go_enter Try.func11, Try.ntmps11
  go_wp2_with (rw [HW0.out])
  clear HW0
  go_at_call 31
  refine HX0.mono ?_
  rintro e W1 ⟨⟨r, rfl, hr⟩, hb⟩
  have hB : Below w.heap.size w W1 := hb1.trans (hb.mono hb1.size)
  replace A1 := A1.below hb
  replace hx := hx.below hb
  clear hb HX0 hb1 c0
  have HR : Hid _ := hr
  clear hr
  cases r with
  | false =>
    have hn : Hid (¬ HMay x.hp) := fun h => absurd (HR.out.2 h.zs) (by simp)
    clear HR A1
    go_wp2
    go_ret
    exact ⟨HNo.out _ rfl hn.out, hB⟩
  | true =>
  have Hz : Hid (ZsOk x.hp) := HR.out.1 rfl
  clear HR
  have HX1 := pMinsMay_any W1 x hx
  have c1 := A1.c1
  go_wp2_with fail
  go_at_call 32
  refine HX1.mono ?_
  rintro e W2 ⟨⟨r, rfl, hr⟩, hb⟩
  replace hB := hB.trans (hb.mono hB.size)
  replace A1 := A1.below hb
  replace hx := hx.below hb
  clear hb HX1 c1
  have HR : Hid _ := hr
  clear hr
  cases r with
  | false =>
    have hn : Hid (¬ HMay x.hp) := fun h => absurd (HR.out.2 h.mn) (by simp)
    clear HR A1
    go_wp2
    go_ret
    exact ⟨HNo.out _ rfl hn.out, hB⟩
  | true =>
  have Hm : Hid (MnOk x.hp) := HR.out.1 rfl
  clear HR
  have HX2 := pAreCpus_any W2 x.cpus
  have c2 := A1.c2
  go_wp2_with fail
  go_at_call 22
  refine HX2.mono ?_
  rintro e W2' ⟨rfl, rfl⟩
  clear HX2 c2
  by_cases hc : 1 ≤ x.cpus ∧ x.cpus ≤ 4
  rotate_left
  · rw [inB_f hc]
    have hn : Hid (¬ HMay x.hp) := fun h => hc h.cpus
    clear A1
    go_wp2
    go_ret
    exact ⟨HNo.out _ rfl hn.out, hB⟩
  rw [inB_t hc]
  have HX3 := pListsMay_any W2 x hx
  have c0 := A1.c0
  have c1 := A1.c1
  have c2 := A1.c2
  have c3 := A1.c3
  have c4 := A1.c4
  go_wp2_with fail
  go_at_call 33
  refine HX3.mono ?_
  rintro e W3 ⟨⟨r, rfl, hr⟩, hb⟩
  replace hB := hB.trans (hb.mono hB.size)
  replace A1 := A1.below hb
  replace hx := hx.below hb
  clear hb HX3 c0 c1 c2 c3 c4
  have HR : Hid _ := hr
  clear hr
  cases r with
  | false =>
    have hn : Hid (¬ HMay x.hp) := fun h => absurd (HR.out.2 (lss_to hex h.zs h.ls)) (by simp)
    clear HR A1
    go_wp2
    go_ret
    exact ⟨HNo.out _ rfl hn.out, hB⟩
  | true =>
  have Hl : Hid (LssOk x.hp) := lss_of hex Hz.out (HR.out.1 rfl)
  clear HR
  have HX4 := pLiveMay_any W3 x.vo x.vn x.vc x.live hx.live
  have c4 := A1.c4
  go_wp2_with fail
  go_at_call 34
  refine HX4.mono ?_
  rintro e W4 ⟨⟨r, rfl, hr⟩, hb⟩
  replace hB := hB.trans (hb.mono hB.size)
  replace A1 := A1.below hb
  replace hx := hx.below hb
  clear hb HX4 c4
  have HR : Hid _ := hr
  clear hr
  cases r with
  | false =>
    have hn : Hid (¬ HMay x.hp) := fun h => absurd (HR.out.2 h.lv) (by simp)
    clear HR A1
    go_wp2
    go_ret
    exact ⟨HNo.out _ rfl hn.out, hB⟩
  | true =>
  have Hv : Hid (LvsOk x.live) := HR.out.1 rfl
  clear HR
  have HX5 := pApart_any W4 x hx (free_in Hz.out) (page_inL Hz.out Hl.out) (live_in Hv.out)
  have c0 := A1.c0
  have c1 := A1.c1
  have c2 := A1.c2
  have c3 := A1.c3
  have c4 := A1.c4
  go_wp2_with fail
  go_at_call 35
  refine HX5.mono ?_
  rintro e W5 ⟨⟨r, rfl, hr⟩, hb⟩
  replace hB := hB.trans (hb.mono hB.size)
  clear hb HX5 c0 c1 c2 c3 c4 A1
  have HR : Hid _ := hr
  clear hr
  cases r with
  | false =>
    have hn : Hid (¬ HMay x.hp) := fun h => absurd (HR.out.2 h.apart) (by simp)
    clear HR
    go_wp2
    go_ret
    exact ⟨HNo.out _ rfl hn.out, hB⟩
  | true =>
    have hy : Hid (HMay x.hp) := ⟨Hz.out, Hm.out, hc, Hl.out, Hv.out, HR.out.1 rfl⟩
    clear HR
    go_wp2
    go_ret
    exact ⟨⟨0, rfl, .inl ⟨rfl, hy.out⟩⟩, hB⟩

end Go.Proofs.Ytbjlbmofdnkmiaa

/-
  OWN TEXT. A region that draws its order, walked in the order of the text: operations that only read under a condition on the world, and single ones that write, which come up alone; over whatever program.
-/
namespace Go.Proofs.Ytbjlbmofdnkmiaa.Kit
open Go Go.RowKit

/-- The order of the text is as good as any: what reads may be taken first, what writes comes up alone. -/
def lexH (md : Region.Mode) (ops : Array Oper) (eff : List Nat) : Nat → Nat → Array Bool → Bool
  | 0, _, listed => (Region.ready md ops listed).isEmpty
  | n + 1, k, listed => (bif memN eff k then Region.ready md ops listed == [k] else (Region.ready md ops listed).contains k && Region.free md ops listed k) && lexH md ops eff n (k + 1) (listed.setIfInBounds k true)
def lexHB (ops : Array Oper) (eff : List Nat) : Bool := Region.noSelect ops && lexH .any ops eff ops.size 0 (Array.replicate ops.size false)

/-- The walk. -/
def wpHL (P : Program) (l : List Oper) (Q : Exit → Act → World → Prop) (S : World → Prop) (eff : List Nat) : Nat → List Oper → Act → World → Prop
  | _, [], a, w => Q .normal a w
  | k, o :: rest, a, w =>
    if memN eff k = true then (if Region.wanted o (yielded l.toArray a.tmps) then o.wp P a w (fun a' w' => S w' ∧ wpHL P l Q S eff (k + 1) rest a' w') Q else wpHL P l Q S eff (k + 1) rest (a.put o.dst undef) w)
    else ∃ v, ((Region.wanted o (yielded l.toArray a.tmps) = true ∧ ∀ wx, S wx → (execOp a.eval o).run P wx = .ok (.value v) wx) ∨ (Region.wanted o (yielded l.toArray a.tmps) = false ∧ v = undef)) ∧ wpHL P l Q S eff (k + 1) rest (a.put o.dst v) w

/-- At a panic's exit no slot is looked at. -/
def Blind (Q : Exit → Act → World → Prop) : Prop := ∀ c (a : Act) w d v, Q (.panic c) (a.put d v) w → Q (.panic c) a w

theorem blind_then {K : Act → World → Prop} {Q : Exit → Act → World → Prop} (h : Blind Q) : Blind (Exit.then K Q) := fun c a w d v g => h c a w d v g
theorem blind_in {i : Nat} {Q : Exit → Act → World → Prop} (h : Blind Q) : Blind (Exit.inBlock i Q) := fun c a w d v g => h c a w d v g
theorem blind_body {P : Program} {fn : Func} {R : Ending → World → Prop} : Blind (bodyPost P fn R) := fun c a w d v g => by
  cases d with
  | none => exact g
  | some d => exact g

section
variable {P : Program} {l : List Oper} {Q : Exit → Act → World → Prop} {S : World → Prop} {eff : List Nat}
theorem wpAnyH_lex (hs : Region.noSelect l.toArray = true) (hQ : Blind Q) : ∀ (r : List Oper) (k : Nat) (listed : Array Bool) (a : Act) (w : World), (∀ j, r[j]? = l[k + j]?) → S w →
    lexH .any l.toArray eff r.length k listed = true → wpHL P l Q S eff k r a w → wpAnyH P .any l.toArray Q S r.length listed a w
  | [], k, listed, a, w, _, _, hB, h => by
    refine ⟨by simpa [lexH] using hB, h⟩
  | o :: r, k, listed, a, w, hl, hS, hB, h => by
    have h0 : l[k]? = some o := by simpa using (hl 0).symm
    have hl' : ∀ j, r[j]? = l[k + 1 + j]? := fun j => by have := hl (j + 1); simpa [Nat.add_assoc, Nat.add_comm 1 j] using this
    unfold lexH at hB
    unfold wpHL at h
    simp only [List.length_cons, Bool.and_eq_true] at hB ⊢
    obtain ⟨hB1, hB2⟩ := hB
    cases hm : memN eff k with
    | true =>
      rw [hm] at hB1
      rw [if_pos hm] at h
      simp only [cond_true, beq_iff_eq] at hB1
      refine wpAnyH_all hB1 (by simp) ?_
      intro i hi
      obtain rfl : i = k := by simpa using hi
      unfold wpOp
      have h0' : l.toArray[i]? = some o := by simpa using h0
      rw [h0']
      simp only
      by_cases hw : Region.wanted o (yielded l.toArray a.tmps) = true
      · rw [if_pos hw] at h ⊢
        exact .inl (Oper.wp_mono (fun a' w' ⟨g1, g2⟩ => ⟨g1, wpAnyH_lex hs hQ r (i + 1) _ a' w' hl' g1 hB2 g2⟩) h)
      · rw [if_neg hw] at h ⊢
        exact ⟨hS, wpAnyH_lex hs hQ r (i + 1) _ _ w hl' hS hB2 h⟩
    | false =>
      rw [hm] at hB1
      rw [if_neg (by rw [hm]; exact Bool.false_ne_true)] at h
      simp only [cond_false, Bool.and_eq_true] at hB1
      obtain ⟨v, hv, hk⟩ := h
      refine wpAnyH_take (by simpa using h0) hs hB1.2 hB1.1 (fun c a' w' => hQ c a' w' _ _) ?_ hS (wpAnyH_lex hs hQ r (k + 1) _ _ w hl' hS hB2 hk)
      rcases hv with ⟨g1, g2⟩ | ⟨g1, g2⟩
      · exact .inl ⟨g1, g2⟩
      · exact .inr ⟨g1, g2⟩

theorem sx_held {id : Nat} {A : Act} {w : World} (S : World → Prop) (eff : List Nat) (hm : P.follows .mixedOrders = true) (hB : lexHB l.toArray eff = true) (hQ : Blind Q) (hS : S { w with drawn := w.drawn + 1 })
    (h : wpHL P l Q S eff 0 l A { w with drawn := w.drawn + 1 }) : (Code.region id l.toArray true).wp P Q A w := by
  unfold lexHB at hB
  simp only [Bool.and_eq_true] at hB
  refine wp_region_held (S := S) hm ?_
  have := wpAnyH_lex hB.1 hQ l 0 (Array.replicate l.toArray.size false) A { w with drawn := w.drawn + 1 } (fun j => by simp) hS (by simpa using hB.2) h
  simpa using this

variable {A : Act} {N : Nat} {L : List (Nat × Value)} {rest : List Oper} {o : Oper} {w : World} {k : Nat}
theorem h_nil (h : Q .normal A w) : wpHL P l Q S eff k [] A w := h
theorem h_do {d : Nat} {v : Value} (f : Fr A N L) (he : memN eff k = false) (hd : o.dst = some d) (hN : Nat.blt d N = true) (hw : wantB l L o = some true) (hy : YC P S L o v)
    (h : ∀ A', Fr A' N ((d, v) :: L) → wpHL P l Q S eff (k + 1) rest A' w) : wpHL P l Q S eff k (o :: rest) A w := by
  unfold wpHL
  rw [if_neg (by rw [he]; exact Bool.false_ne_true)]
  refine ⟨v, .inl ⟨f.wanted hw, hy A.eval (fun x u hu => f.ev hu)⟩, ?_⟩
  rw [hd]
  exact h _ (f.put d v (by simpa [Nat.blt_eq] using hN))
theorem h_if {d : Nat} (p : Prop) [Decidable p] (f : Fr A N L) (he : memN eff k = false) (hd : o.dst = some d) (hN : Nat.blt d N = true) (hw : wantB l L o = some true) (hy : YC P S L o (.bool (decide p)))
    (ht : p → ∀ A', Fr A' N ((d, .bool true) :: L) → wpHL P l Q S eff (k + 1) rest A' w) (hf : ¬ p → ∀ A', Fr A' N ((d, .bool false) :: L) → wpHL P l Q S eff (k + 1) rest A' w) : wpHL P l Q S eff k (o :: rest) A w := by
  refine h_do f he hd hN hw hy ?_
  by_cases hp : p
  · rw [decide_eq_true hp]; exact ht hp
  · rw [decide_eq_false hp]; exact hf hp
theorem h_no {d : Nat} (f : Fr A N L) (hd : o.dst = some d) (hN : Nat.blt d N = true) (hw : wantB l L o = some false)
    (h : ∀ A', Fr A' N ((d, undef) :: L) → wpHL P l Q S eff (k + 1) rest A' w) : wpHL P l Q S eff k (o :: rest) A w := by
  have hw' := f.wanted hw
  have hk := h _ (f.put d undef (by simpa [Nat.blt_eq] using hN))
  unfold wpHL
  by_cases he : memN eff k = true
  · rw [if_pos he, if_neg (by rw [hw']; exact Bool.false_ne_true), hd]
    exact hk
  · rw [if_neg he]
    refine ⟨undef, .inr ⟨hw', rfl⟩, ?_⟩
    rw [hd]
    exact hk
/-- A call that may write, alone. -/
theorem h_call {d : Nat} {g : FuncId} {args : List Value} {R : Ending → World → Prop} (f : Fr A N L) (he : memN eff k = true) (hd : o.dst = some d) (hN : Nat.blt d N = true) (hw : wantB l L o = some true) (hc : IsCall L o g args) (hp : Plain P g)
    (hR : Calls P g args.toArray w R) (h : ∀ e w', R e w' → ∃ v, e = .returned v ∧ S w' ∧ ∀ A', Fr A' N ((d, v) :: L) → wpHL P l Q S eff (k + 1) rest A' w') : wpHL P l Q S eff k (o :: rest) A w := by
  unfold wpHL
  rw [if_pos he, if_pos (f.wanted hw)]
  unfold Oper.wp
  rw [hc.run hp (fun x u hu => f.ev hu) w, Oper.upon_enter]
  refine hR.mono fun e w' he => ?_
  obtain ⟨v, rfl, hS, hk⟩ := h e w' he
  rw [hd]
  exact ⟨hS, hk _ (f.put d v (by simpa [Nat.blt_eq] using hN))⟩
/-- A call that writes nothing, whose outcome parts the walk. -/
theorem h_callif {d : Nat} {g : FuncId} {args : List Value} (p : Prop) [Decidable p] (f : Fr A N L) (he : memN eff k = true) (hd : o.dst = some d) (hN : Nat.blt d N = true) (hw : wantB l L o = some true) (hc : IsCall L o g args) (hp : Plain P g)
    (hR : Calls P g args.toArray w fun e w' => e = .returned (.bool (decide p)) ∧ Below w.heap.size w w') (hS : ∀ W, Below w.heap.size w W → S W)
    (ht : p → ∀ W, Below w.heap.size w W → ∀ A', Fr A' N ((d, .bool true) :: L) → wpHL P l Q S eff (k + 1) rest A' W) (hf : ¬ p → ∀ W, Below w.heap.size w W → ∀ A', Fr A' N ((d, .bool false) :: L) → wpHL P l Q S eff (k + 1) rest A' W) : wpHL P l Q S eff k (o :: rest) A w := by
  refine h_call f he hd hN hw hc hp hR ?_
  rintro e W ⟨rfl, hb⟩
  refine ⟨_, rfl, hS W hb, ?_⟩
  by_cases hp : p
  · rw [decide_eq_true hp]; exact ht hp W hb
  · rw [decide_eq_false hp]; exact hf hp W hb
/-- A call that writes nothing, its outcome known. -/
theorem h_callv {d : Nat} {g : FuncId} {args : List Value} {v : Value} (f : Fr A N L) (he : memN eff k = true) (hd : o.dst = some d) (hN : Nat.blt d N = true) (hw : wantB l L o = some true) (hc : IsCall L o g args) (hp : Plain P g)
    (hR : Calls P g args.toArray w fun e w' => e = .returned v ∧ Below w.heap.size w w') (hS : ∀ W, Below w.heap.size w W → S W)
    (h : ∀ W, Below w.heap.size w W → ∀ A', Fr A' N ((d, v) :: L) → wpHL P l Q S eff (k + 1) rest A' W) : wpHL P l Q S eff k (o :: rest) A w := by
  refine h_call f he hd hN hw hc hp hR ?_
  rintro e W ⟨rfl, hb⟩
  exact ⟨_, rfl, hS W hb, h W hb⟩

end
end Go.Proofs.Ytbjlbmofdnkmiaa.Kit

/-
  OWN TEXT. Stores into blocks that are known cell by cell, results that lie in memory; over whatever program.
-/
namespace Go.Proofs.Ytbjlbmofdnkmiaa.Kit
open Go Go.RowKit

def over : List Value → List Value → List Value
  | cs, [] => cs
  | [], _ => []
  | _ :: cs, v :: vs => v :: over cs vs
def setL : List Value → Nat → List Value → List Value
  | cs, 0, vs => over cs vs
  | [], _ + 1, _ => []
  | c :: cs, o + 1, vs => c :: setL cs o vs
theorem over_eq : ∀ (cs vs : List Value), vs.length ≤ cs.length → over cs vs = vs ++ cs.drop vs.length
  | cs, [], _ => by cases cs <;> rfl
  | [], v :: vs, h => by simp at h
  | c :: cs, v :: vs, h => by simp [over, over_eq cs vs (by simpa using h)]
theorem setL_eq : ∀ (cs : List Value) (o : Nat) (vs : List Value), o + vs.length ≤ cs.length → setL cs o vs = cs.take o ++ vs ++ cs.drop (o + vs.length)
  | cs, 0, vs, h => by
    have e : setL cs 0 vs = over cs vs := by cases cs <;> rfl
    rw [e, over_eq cs vs (by omega)]; simp
  | [], o + 1, vs, h => by simp at h
  | c :: cs, o + 1, vs, h => by
    have := setL_eq cs o vs (by simp at h; omega)
    rw [setL, this]
    have e : o + 1 + vs.length = (o + vs.length) + 1 := by omega
    rw [e]; simp

theorem row_store {P : Program} {w : World} {b o : Nat} {cs vs : List Value} {t : TypeId} (hg : w.heap[b]? = some (.cells cs.toArray t (0, 0))) (hf : o + vs.length ≤ cs.length) (h1 : ∀ v ∈ vs, v.oneCell' = true) :
    ∃ W, (storeCells ⟨b, o, none⟩ vs 0).run P w = .ok () W ∧ But b w W ∧ W.heap[b]? = some (.cells (setL cs o vs).toArray t (0, 0)) := by
  have := run_storeCells_at (P := P) b o t vs 0 cs.toArray w hg (by simpa using hf) h1
  refine ⟨_, this, ⟨rfl, rfl, rfl, by simp [World.setRow], fun k _ hk => by simp [World.setRow, Array.getElem?_modify, Ne.symm hk]⟩, ?_⟩
  rw [setL_eq _ _ _ hf]
  simp [World.setRow, Array.getElem?_modify, hg]

def szB (P : Program) (t : TypeId) : Option Nat := (P.info? t).map (·.size)
section
variable {P : Program} {A : Act} {N : Nat} {L : List (Nat × Value)} {l rest : List Oper} {o : Oper} {w : World} {C : World → Prop} {Q : Exit → Act → World → Prop}
theorem store_run {t tt : TypeId} {x y : Operand} {b off n : Nat} {v : Value} {cs : List Value} (f : Fr A N L) (ho : o.op = .store t x y) (hx : ev L x = some (.pointer (some ⟨b, off, none⟩))) (hy : ev L y = some v)
    (hrow : w.heap[b]? = some (.cells cs.toArray tt (0, 0))) (hs : szB P t = some n) (hn : v.cells.size = n) (hf : off + n ≤ cs.length) (h1 : (v.cells.toList.all (·.oneCell')) = true) :
    ∃ W, (execOp A.eval o).run P w = .ok .skip W ∧ But b w W ∧ W.heap[b]? = some (.cells (setL cs off v.cells.toList).toArray tt (0, 0)) := by
  unfold szB at hs
  simp only [Option.map_eq_some_iff] at hs
  obtain ⟨i, hi, rfl⟩ := hs
  obtain ⟨W, hr, hb, hw⟩ := row_store (P := P) (vs := v.cells.toList) (o := off) hrow (Nat.le_trans (Nat.add_le_add_left (Nat.le_of_eq (by simpa using hn)) _) hf) (fun u hu => List.all_eq_true.1 h1 u hu)
  have hsv := run_storeVar' (a := ⟨b, off, none⟩) hi hn hr
  have e1 := f.ev hx
  have e2 := f.ev hy
  refine ⟨W, ?_, hb, hw⟩
  obtain ⟨ρ, hρ⟩ : ∃ ρ, A.eval = ρ := ⟨_, rfl⟩
  rw [hρ] at e1 e2 ⊢
  obtain ⟨s, hs⟩ : ∃ s, storeVar t ⟨b, off, none⟩ v = s := ⟨_, rfl⟩
  rw [hs] at hsv
  unfold execOp
  rw [ho]
  simp only
  unfold Instr.storeAt
  rw [e1, e2]
  show (do storeVar t ⟨b, off, none⟩ v; pure Next.skip : Sem Next).run P w = _
  rw [hs]
  simp [hsv, go_sem]
theorem l_store {t tt : TypeId} {x y : Operand} {b off n : Nat} {v : Value} {cs : List Value} (f : Fr A N L) (hd : o.dst = none) (hw : wantB l L o = some true) (ho : o.op = .store t x y) (hx : ev L x = some (.pointer (some ⟨b, off, none⟩))) (hy : ev L y = some v)
    (hrow : w.heap[b]? = some (.cells cs.toArray tt (0, 0))) (hs : szB P t = some n) (hn : v.cells.size = n) (hf : off + n ≤ cs.length) (h1 : (v.cells.toList.all (·.oneCell')) = true)
    (h : ∀ W, But b w W → W.heap[b]? = some (.cells (setL cs off v.cells.toList).toArray tt (0, 0)) → wpList P l.toArray Q rest A W) : wpList P l.toArray Q (o :: rest) A w := by
  obtain ⟨W, hr, hb, hw'⟩ := store_run (P := P) f ho hx hy hrow hs hn hf h1
  unfold wpList
  rw [if_pos (f.wanted hw)]
  left
  unfold Oper.wp
  rw [hr, Oper.upon_skip, hd]
  exact h W hb hw'
theorem h_store {S : World → Prop} {eff : List Nat} {k : Nat} {t tt : TypeId} {x y : Operand} {b off n : Nat} {v : Value} {cs : List Value} (f : Fr A N L) (he : memN eff k = true) (hd : o.dst = none) (hw : wantB l L o = some true) (ho : o.op = .store t x y) (hx : ev L x = some (.pointer (some ⟨b, off, none⟩))) (hy : ev L y = some v)
    (hrow : w.heap[b]? = some (.cells cs.toArray tt (0, 0))) (hs : szB P t = some n) (hn : v.cells.size = n) (hf : off + n ≤ cs.length) (h1 : (v.cells.toList.all (·.oneCell')) = true) (hS : ∀ W, But b w W → W.heap[b]? = some (.cells (setL cs off v.cells.toList).toArray tt (0, 0)) → S W)
    (h : ∀ W, But b w W → W.heap[b]? = some (.cells (setL cs off v.cells.toList).toArray tt (0, 0)) → wpHL P l Q S eff (k + 1) rest A W) : wpHL P l Q S eff k (o :: rest) A w := by
  obtain ⟨W, hr, hb, hw'⟩ := store_run (P := P) f ho hx hy hrow hs hn hf h1
  unfold wpHL
  rw [if_pos he, if_pos (f.wanted hw)]
  unfold Oper.wp
  rw [hr, Oper.upon_skip, hd]
  exact ⟨hS W hb hw', h W hb hw'⟩

theorem storeR_run {t : TypeId} {x y : Operand} {p : Addr} {v : Value} {R : World → Prop} (f : Fr A N L) (ho : o.op = .store t x y) (hx : ev L x = some (.pointer (some p))) (hy : ev L y = some v)
    (hr : ∃ W, (storeVar t p v).run P w = .ok () W ∧ R W) : ∃ W, (execOp A.eval o).run P w = .ok .skip W ∧ R W := by
  obtain ⟨W, hsv, hR⟩ := hr
  have e1 := f.ev hx
  have e2 := f.ev hy
  refine ⟨W, ?_, hR⟩
  obtain ⟨ρ, hρ⟩ : ∃ ρ, A.eval = ρ := ⟨_, rfl⟩
  rw [hρ] at e1 e2 ⊢
  obtain ⟨s, hs⟩ : ∃ s, storeVar t p v = s := ⟨_, rfl⟩
  rw [hs] at hsv
  unfold execOp
  rw [ho]
  simp only
  unfold Instr.storeAt
  rw [e1, e2]
  show (do storeVar t p v; pure Next.skip : Sem Next).run P w = _
  rw [hs]
  simp [hsv, go_sem]
/-- An operation by what it does. -/
theorem l_opR {d : Nat} {R : Value → World → Prop} (f : Fr A N L) (hd : o.dst = some d) (hN : Nat.blt d N = true) (hw : wantB l L o = some true) (hr : ∃ v W, (execOp A.eval o).run P w = .ok (.value v) W ∧ R v W)
    (h : ∀ v W, R v W → ∀ A', Fr A' N ((d, v) :: L) → wpList P l.toArray Q rest A' W) : wpList P l.toArray Q (o :: rest) A w := by
  obtain ⟨v, W, hrun, hR⟩ := hr
  unfold wpList
  rw [if_pos (f.wanted hw)]
  left
  unfold Oper.wp
  rw [hrun, Oper.upon_value, hd]
  exact h v W hR _ (f.put d v (by simpa [Nat.blt_eq] using hN))
theorem append_exec {s x : Operand} {t tn : TypeId} {vs vx v : Value} {W : World} (f : Fr A N L) (ho : o.op = .call ⟨.builtin .append, #[s, x], #[t, tn]⟩) (hs : ev L s = some vs) (hx : ev L x = some vx)
    (hr : (Builtin.append_ #[t, tn] o.type #[vs, vx]).run P w = .ok v W) : (execOp A.eval o).run P w = .ok (.value v) W := by
  have e1 := f.ev hs
  have e2 := f.ev hx
  unfold execOp
  simp only [ho, resolve, invoke, builtin, Sem.run_bind, Sem.run_pure, Result.andThen_ok, List.map_toArray, List.map_cons, List.map_nil, e1, e2, hr]
theorem bs_exec {t : TypeId} {n : Nat} {ps : List (Nat × Operand)} {vs : List (Nat × Value)} {v : Value} {W : World} (f : Fr A N L) (ho : o.op = .buildSlice t n ps.toArray) (hp : evp L ps = some vs)
    (hr : (Instr.buildSlice t n vs.toArray).run P w = .ok v W) : (execOp A.eval o).run P w = .ok (.value v) W := by
  have e := evp_map (fun x u hu => f.ev hu) hp
  have e' : ps.toArray.map (fun (i, x) => (i, A.eval x)) = vs.toArray := by simpa using congrArg List.toArray e
  obtain ⟨s, hs⟩ : ∃ s, Instr.buildSlice t n vs.toArray = s := ⟨_, rfl⟩
  rw [hs] at hr
  unfold execOp
  rw [ho]
  simp only
  rw [e', hs]
  simp [hr]
/-- A store by what it does. -/
theorem l_storeR {t : TypeId} {x y : Operand} {p : Addr} {v : Value} {R : World → Prop} (f : Fr A N L) (hd : o.dst = none) (hw : wantB l L o = some true) (ho : o.op = .store t x y) (hx : ev L x = some (.pointer (some p))) (hy : ev L y = some v)
    (hr : ∃ W, (storeVar t p v).run P w = .ok () W ∧ R W) (h : ∀ W, R W → wpList P l.toArray Q rest A W) : wpList P l.toArray Q (o :: rest) A w := by
  obtain ⟨W, hrun, hR⟩ := storeR_run (P := P) f ho hx hy hr
  unfold wpList
  rw [if_pos (f.wanted hw)]
  left
  unfold Oper.wp
  rw [hrun, Oper.upon_skip, hd]
  exact h W hR
theorem h_storeR {S : World → Prop} {eff : List Nat} {k : Nat} {t : TypeId} {x y : Operand} {p : Addr} {v : Value} {R : World → Prop} (f : Fr A N L) (he : memN eff k = true) (hd : o.dst = none) (hw : wantB l L o = some true) (ho : o.op = .store t x y) (hx : ev L x = some (.pointer (some p))) (hy : ev L y = some v)
    (hr : ∃ W, (storeVar t p v).run P w = .ok () W ∧ R W) (hS : ∀ W, R W → S W) (h : ∀ W, R W → wpHL P l Q S eff (k + 1) rest A W) : wpHL P l Q S eff k (o :: rest) A w := by
  obtain ⟨W, hrun, hR⟩ := storeR_run (P := P) f ho hx hy hr
  unfold wpHL
  rw [if_pos he, if_pos (f.wanted hw)]
  unfold Oper.wp
  rw [hrun, Oper.upon_skip, hd]
  exact ⟨hS W hR, h W hR⟩

/-- A cell of a block that is known. -/
theorem rowl {b j : Nat} {cs : List Value} {t : TypeId} {v : Value} (h : ∀ wx, C wx → wx.heap[b]? = some (.cells cs.toArray t (0, 0))) (hj : cs[j]? = some v) : StC C ⟨b, j, none⟩ v := fun wx hx => by
  rw [cell_of_row wx b j cs.toArray t (0, 0) (h wx hx)]; simpa using hj
theorem rowq {b : Nat} {cs : List Value} {t : TypeId} (h : w.heap[b]? = some (.cells cs.toArray t (0, 0))) : ∀ wx, ClB w wx → wx.heap[b]? = some (.cells cs.toArray t (0, 0)) := fun _ hx => row_next h hx
def matchL : List Value → List Value → Prop
  | _, [] => True
  | [], _ :: _ => False
  | c :: cs, v :: vs => c = v ∧ matchL cs vs
theorem rowls {b : Nat} {cs : List Value} {t : TypeId} (h : ∀ wx, C wx → wx.heap[b]? = some (.cells cs.toArray t (0, 0))) : ∀ (vs : List Value) (o : Nat), matchL (cs.drop o) vs → StsC C b o vs
  | [], _, _ => trivial
  | v :: vs, o, hm => by
    cases hd : cs.drop o with
    | nil => rw [hd] at hm; exact hm.elim
    | cons c r =>
      rw [hd] at hm
      have h0 : cs[o]? = some c := by
        have := congrArg (fun l => l[0]?) hd
        simpa using this
      refine ⟨rowl h (by rw [h0, hm.1]), rowls h vs (o + 1) ?_⟩
      have : cs.drop (o + 1) = r := by
        have := congrArg List.tail hd
        simpa using this
      rw [this]; exact hm.2
theorem But.row {b c : Nat} {w w' : World} {x : Obj} (h : But b w w') (hr : w.heap[c]? = some x) (hne : c ≠ b) : w'.heap[c]? = some x := by
  rw [h.block c (Array.getElem?_eq_some_iff.1 hr).1 hne]; exact hr
theorem row_lt {w : World} {c : Nat} {x : Obj} (hr : w.heap[c]? = some x) : c < w.heap.size := (Array.getElem?_eq_some_iff.1 hr).1
theorem Below.thenBut {b : Nat} {w0 w w' : World} (h : Below w0.heap.size w0 w) (hb : But b w w') (hle : w0.heap.size ≤ b) : Below w0.heap.size w0 w' := h.trans (hb.below hle h.size)
theorem y_nil {x : Operand} {p : Addr} (ho : o.op = .nilCheck x) (hx : ev L x = some (.pointer (some p))) : YC P C L o (.pointer (some p)) := by
  intro ρ hρ wx _
  simp [execOp, ho, hρ _ _ hx, go_sem]
theorem y_ext {x : Operand} {i : Nat} {vs : Array Value} {v : Value} (ho : o.op = .extract x i) (hx : ev L x = some (.tuple vs)) (hv : vs[i]? = some v) : YC P C L o v := by
  intro ρ hρ wx _
  simp [execOp, ho, hρ _ _ hx, Instr.extract, hv, go_sem]

/-! Results in memory. -/
theorem cell_run {t : TypeId} {b n : Nat} {cs : List Value} {tt : TypeId} (ht : isAggB P t = some (some n)) (hrow : w.heap[b]? = some (.cells cs.toArray tt (0, 0))) (hn : cs.length = n) : (loadVar t ⟨b, 0, none⟩).run P w = .ok (.agg cs.toArray) w := by
  have hcx := load_row (P := P) hrow (n := n) (by simpa using hn)
  unfold isAggB at ht
  cases hu : P.underlying t with
  | none => rw [hu] at ht; cases ht
  | some d =>
    rw [hu] at ht
    cases d with
    | struct fs =>
      simp only [Option.map_eq_some_iff, Option.some.injEq] at ht
      obtain ⟨inf, hi, e⟩ := ht
      subst e
      simp [loadVar, isAgg, run_under hu, run_size hi, loadCells, hcx, go_sem]
    | array m e =>
      simp only [Option.map_eq_some_iff, Option.some.injEq] at ht
      obtain ⟨inf, hi, e⟩ := ht
      subst e
      simp [loadVar, isAgg, run_under hu, run_size hi, loadCells, hcx, go_sem]
    | _ => simp at ht
theorem x_retc {fn : Func} {R : Ending → World → Prop} {t : Tmp} {ty tt : TypeId} {b n : Nat} {cs : List Value} (f : Fr A N L) (hr : fn.results = #[.cell t ty]) (hv : look L t = some (.pointer (some ⟨b, 0, none⟩))) (ht : isAggB P ty = some (some n)) (hrow : w.heap[b]? = some (.cells cs.toArray tt (0, 0))) (hn : cs.length = n)
    (h : R (.returned (.agg cs.toArray)) w) : bodyPost P fn R .ret A w := by
  refine ⟨f.defs, _, ?_, h⟩
  have e := f.at_ t _ hv
  rw [Array.getD_eq_getD_getElem?] at e
  have hl := cell_run ht hrow hn
  obtain ⟨s, hs⟩ : ∃ s, loadVar ty ⟨b, 0, none⟩ = s := ⟨_, rfl⟩
  rw [hs] at hl
  simp [results, hr, e, asAddr, hs, hl]
theorem x_retc1 {fn : Func} {R : Ending → World → Prop} {t u : Tmp} {ty tt : TypeId} {b n : Nat} {cs : List Value} {v : Value} (f : Fr A N L) (hr : fn.results = #[.cell t ty, .tmp u]) (hv : look L t = some (.pointer (some ⟨b, 0, none⟩))) (hu : look L u = some v) (ht : isAggB P ty = some (some n)) (hrow : w.heap[b]? = some (.cells cs.toArray tt (0, 0))) (hn : cs.length = n)
    (h : R (.returned (.tuple #[.agg cs.toArray, v])) w) : bodyPost P fn R .ret A w := by
  refine ⟨f.defs, _, ?_, h⟩
  have e := f.at_ t _ hv
  rw [Array.getD_eq_getD_getElem?] at e
  have e' := f.at_ u _ hu
  rw [Array.getD_eq_getD_getElem?] at e'
  have hl := cell_run ht hrow hn
  obtain ⟨s, hs⟩ : ∃ s, loadVar ty ⟨b, 0, none⟩ = s := ⟨_, rfl⟩
  rw [hs] at hl
  simp [results, hr, e, e', asAddr, hs, hl]
end
end Go.Proofs.Ytbjlbmofdnkmiaa.Kit

/-
  OWN TEXT. The layout of the program's types, as tables.
-/
namespace Go.Proofs.Ytbjlbmofdnkmiaa
open Go Go.RowKit Go.Proofs.Ytbjlbmofdnkmiaa.Kit

def tF : List (Nat × Nat) := [(112, 0), (113, 1), (114, 2), (115, 3), (128, 0), (129, 1), (130, 2), (131, 3), (208, 0), (209, 1), (224, 0), (225, 1), (288, 0), (304, 0), (432, 0), (433, 1), (434, 2), (435, 3), (436, 4), (448, 0), (449, 1), (450, 2), (451, 3), (452, 4), (656, 0), (657, 1), (672, 0), (673, 1), (688, 0), (689, 1), (690, 2), (691, 3), (704, 0), (705, 1), (706, 2), (707, 3), (896, 0), (897, 1), (898, 2), (899, 3), (912, 0), (913, 1), (914, 2), (915, 3), (992, 0), (993, 1), (994, 2), (1008, 0), (1009, 1), (1010, 2), (1328, 0), (1329, 1), (1344, 0), (1345, 1), (2032, 0), (2033, 1), (2034, 2), (2035, 3), (2048, 0), (2049, 1), (2050, 2), (2051, 3), (2240, 0), (2241, 1), (2242, 2), (2243, 3), (2244, 4), (2245, 5), (2246, 6), (2247, 7), (2248, 8), (2249, 9), (2250, 10), (2256, 0), (2257, 1), (2258, 2), (2259, 3), (2260, 4), (2261, 5), (2262, 6), (2263, 7), (2264, 8), (2265, 9), (2266, 10)]
def tE : List (Nat × Nat) := [(22, 2), (23, 4), (24, 1), (25, 4), (26, 3)]
def tA : List (Nat × Nat) := [(1, 0), (2, 0), (3, 0), (4, 0), (5, 0), (6, 0), (7, 5), (8, 5), (9, 0), (10, 0), (11, 0), (12, 0), (13, 3), (14, 3), (15, 0), (16, 0), (17, 0), (18, 2), (19, 2), (21, 0), (22, 0), (23, 0), (24, 0), (25, 0), (26, 0), (27, 6), (28, 6), (29, 0), (31, 0), (32, 0), (33, 0), (34, 0), (35, 0), (36, 0), (37, 0), (38, 0), (39, 0), (40, 0), (41, 3), (42, 3), (43, 5), (44, 5), (46, 0), (47, 0), (48, 0), (49, 0), (50, 0), (51, 0), (52, 0), (53, 0), (54, 0), (55, 0), (56, 5), (57, 5), (58, 0), (59, 0), (60, 0), (61, 0), (62, 4), (63, 4), (64, 0), (65, 0), (66, 0), (67, 0), (68, 0), (69, 0), (70, 0), (71, 0), (72, 0), (73, 0), (74, 0), (75, 0), (77, 0), (78, 0), (79, 0), (80, 0), (81, 0), (82, 0), (83, 3), (84, 3), (85, 0), (86, 0), (87, 0), (88, 0), (89, 0), (90, 0), (91, 257), (92, 257), (93, 0), (94, 0), (95, 0), (96, 0), (97, 0), (98, 0), (99, 0), (100, 0), (101, 0), (102, 0), (104, 0), (106, 0), (107, 0), (108, 0), (109, 0), (110, 0), (112, 0), (113, 0), (114, 0), (115, 0), (116, 0), (117, 0), (118, 0), (119, 0), (120, 0), (121, 0), (122, 0), (123, 0), (124, 0), (125, 0), (126, 0), (127, 5), (128, 5), (129, 1), (130, 1), (131, 1), (132, 0), (133, 0), (134, 0), (135, 0), (136, 0), (137, 0), (138, 0), (139, 0), (140, 12), (141, 12)]
def tS : List (Nat × Nat) := [(1, 1), (2, 1), (3, 1), (4, 1), (5, 1), (6, 1), (7, 4), (8, 4), (9, 1), (10, 1), (11, 1), (12, 1), (13, 2), (14, 2), (15, 1), (16, 1), (17, 1), (18, 1), (19, 1), (21, 1), (22, 1), (23, 1), (24, 1), (25, 1), (26, 1), (27, 5), (28, 5), (29, 1), (31, 1), (32, 1), (33, 1), (34, 1), (35, 1), (36, 1), (37, 1), (38, 1), (39, 1), (40, 1), (41, 2), (42, 2), (43, 4), (44, 4), (46, 1), (47, 1), (48, 1), (49, 1), (50, 1), (51, 1), (52, 1), (53, 1), (54, 1), (55, 1), (56, 4), (57, 4), (58, 1), (59, 1), (60, 1), (61, 1), (62, 3), (63, 3), (64, 1), (65, 1), (66, 1), (67, 1), (68, 1), (69, 1), (70, 1), (71, 1), (72, 1), (73, 1), (74, 1), (75, 1), (77, 1), (78, 1), (79, 1), (80, 1), (81, 1), (82, 1), (83, 2), (84, 2), (85, 1), (86, 1), (87, 1), (88, 1), (89, 1), (90, 1), (91, 256), (92, 256), (93, 1), (94, 1), (95, 1), (96, 1), (97, 1), (98, 1), (99, 1), (100, 1), (101, 1), (102, 1), (104, 1), (106, 1), (107, 1), (108, 1), (109, 1), (110, 1), (112, 1), (113, 1), (114, 1), (115, 1), (116, 1), (117, 1), (118, 1), (119, 1), (120, 1), (121, 1), (122, 1), (123, 1), (124, 1), (125, 1), (126, 1), (127, 4), (128, 4), (129, 0), (130, 0), (131, 0), (132, 1), (133, 1), (134, 1), (135, 1), (136, 1), (137, 1), (138, 1), (139, 1), (140, 11), (141, 11)]
def tP : List Nat := [3, 4, 5, 6, 7, 8, 9, 10, 11, 12, 13, 14, 15, 16, 17, 18, 19, 20, 21, 22, 23, 24, 25, 26, 27, 28, 29, 30, 31, 32, 33, 34, 35, 36, 37, 38, 39, 40, 41, 42, 43, 44, 45, 46, 47, 48, 49, 50, 51, 52, 53, 54, 55, 56, 57, 58, 59, 60, 61, 62, 63, 64, 65, 66, 67, 68, 69, 70, 71, 72, 73, 74, 75, 76, 77, 78, 79, 80, 81, 82, 83, 84, 85, 86, 87, 88, 89, 90, 91, 92, 93, 94, 95, 96, 97, 98, 99, 100, 101, 102, 103, 104, 105, 106, 108, 109, 111, 112, 113, 114, 115]
set_option maxRecDepth 10000 in
theorem tF_all : (tF.all fun p => fOff Try.prog (p.1 / 16) (p.1 % 16) == some p.2) = true := by kernel_rfl
set_option maxRecDepth 10000 in
theorem tE_all : (tE.all fun p => elSz Try.prog p.1 == some p.2) = true := by kernel_rfl
def aggN : Nat → Option Nat
  | 0 => none
  | n + 1 => some n
set_option maxRecDepth 10000 in
theorem tA_all : (tA.all fun p => isAggB Try.prog p.1 == some (aggN p.2)) = true := by kernel_rfl
set_option maxRecDepth 10000 in
theorem tP_all : (tP.all fun g => plainB Try.prog g) = true := by kernel_rfl

theorem fo {s i k : Nat} (h : lookN tF (s * 16 + i) = some k) (hi : Nat.blt i 16 = true := by rfl) : fOff Try.prog s i = some k := by
  have := List.all_eq_true.1 tF_all _ (lookN_mem h)
  have hi' : i < 16 := by simpa [Nat.blt_eq] using hi
  rw [show (s * 16 + i) / 16 = s by omega, show (s * 16 + i) % 16 = i by omega] at this
  simpa using this
theorem es {t k : Nat} (h : lookN tE t = some k) : elSz Try.prog t = some k := by
  simpa using List.all_eq_true.1 tE_all _ (lookN_mem h)
theorem ag {t k : Nat} {r : Option Nat} (h : lookN tA t = some k) (hr : aggN k = r := by rfl) : isAggB Try.prog t = some r := by
  subst hr
  simpa using List.all_eq_true.1 tA_all _ (lookN_mem h)
theorem sl {t k : Nat} (h : lookN tE t = some k) : isSl Try.prog t = true := by
  have := es h
  unfold elSz at this
  unfold isSl
  cases hu : Try.prog.underlying t with
  | none => rw [hu] at this; cases this
  | some d =>
    rw [hu] at this
    cases d <;> first | rfl | cases this
set_option maxRecDepth 10000 in
theorem tS_all : (tS.all fun p => szB Try.prog p.1 == some p.2) = true := by kernel_rfl
theorem sz {t k : Nat} (h : lookN tS t = some k) : szB Try.prog t = some k := by
  simpa using List.all_eq_true.1 tS_all _ (lookN_mem h)
theorem pl {g : Nat} (h : memN tP g = true) : Plain Try.prog g := Plain.of (List.all_eq_true.1 tP_all _ (memN_mem h))

end Go.Proofs.Ytbjlbmofdnkmiaa

/-
  OWN TEXT. Contract of the document's answer: In.
-/
namespace Go.Proofs.Ytbjlbmofdnkmiaa
open Go Go.RowKit Go.Proofs.Ytbjlbmofdnkmiaa.Kit

theorem in_any (n lo hi : Int) (w : World) :
    Calls Try.prog 25 #[.int .i64 n, .int .i64 lo, .int .i64 hi] w fun e w' => e = .returned (.bool (inB n lo hi)) ∧ w = w' := by
  by_cases h1 : lo ≤ n
  · by_cases h2 : n ≤ hi
    · have hI : Hid (inB n lo hi = true) := inB_t ⟨h1, h2⟩
      go_enter Try.func25, Try.ntmps25
      go_wp2
      go_ret
      exact ⟨ret_bool hI.out.symm, rfl⟩
    · have hI : Hid (inB n lo hi = false) := inB_f (by omega)
      go_enter Try.func25, Try.ntmps25
      go_wp2
      go_ret
      exact ⟨ret_bool hI.out.symm, rfl⟩
  · have hI : Hid (inB n lo hi = false) := inB_f (by omega)
    go_enter Try.func25, Try.ntmps25
    go_wp2
    go_ret
    exact ⟨ret_bool hI.out.symm, rfl⟩

end Go.Proofs.Ytbjlbmofdnkmiaa

/-
  OWN TEXT. Contracts in the form that Sx's laws ask.
-/
namespace Go.Proofs.Ytbjlbmofdnkmiaa
open Go Go.RowKit Go.Proofs.Ytbjlbmofdnkmiaa.Kit

theorem c_iff {g : FuncId} {args : Array Value} {w : World} {p : Prop} [Decidable p] (h : Calls Try.prog g args w fun e w' => RetIff e p ∧ Below w.heap.size w w') : Calls Try.prog g args w fun e w' => e = .returned (.bool (decide p)) ∧ Below w.heap.size w w' := by
  refine h.mono ?_
  rintro e w' ⟨⟨r, rfl, hr⟩, hb⟩
  refine ⟨?_, hb⟩
  congr 2
  cases r with
  | true => exact (decide_eq_true (hr.1 rfl)).symm
  | false => exact (decide_eq_false (fun hp => by have := hr.2 hp; cases this)).symm
theorem c_same {g : FuncId} {args : Array Value} {w : World} {v : Value} (h : Calls Try.prog g args w fun e w' => e = .returned v ∧ w = w') : Calls Try.prog g args w fun e w' => e = .returned v ∧ Below w.heap.size w w' := by
  refine h.mono ?_
  rintro e w' ⟨rfl, rfl⟩
  exact ⟨rfl, Below.refl _ _⟩
theorem in_c (n lo hi : Int) (w : World) : Calls Try.prog 25 #[.int .i64 n, .int .i64 lo, .int .i64 hi] w fun e w' => e = .returned (.bool (decide (lo ≤ n ∧ n ≤ hi))) ∧ Below w.heap.size w w' := c_same (in_any n lo hi w)

end Go.Proofs.Ytbjlbmofdnkmiaa

/-
  OWN TEXT. The zone that a page is in: pages.zoneOf and the document's zoneAt (written by sxd.py).
-/
namespace Go.Proofs.Ytbjlbmofdnkmiaa
open Go Go.RowKit Go.Proofs.Ytbjlbmofdnkmiaa.Kit

/-- The place of the zone that a page is in. -/
def zIdx (H : Hp) (p : Int) : Nat := if p < (H.zones.getD 0 ⟨0, 0, [], []⟩).t then 0 else 1
theorem zIdx_lt (H : Hp) (p : Int) : zIdx H p < 2 := by unfold zIdx; split <;> omega

set_option maxRecDepth 10000 in
set_option maxHeartbeats 4000000 in
theorem pZoneOf_c (w : World) (x : Hx) (p : Int) (hx : x.At w) (hz : x.zn = 2) :
    Calls Try.prog 83 #[.agg #[.slice x.zo x.zn x.zc, .slice x.mo x.mn x.mc, .int .i64 x.cpus, .slice x.lo x.ln x.lc, .slice x.vo x.vn x.vc], .int .i64 p] w fun e w' => e = .returned (.int .i64 (zIdx x.hp p : Nat)) ∧ Below w.heap.size w w' := by
  have B0 := Below.refl w.heap.size w
  refine sx_enter (args := [_, _]) 12 Try.func83 rfl rfl rfl ?_
  intro A f
  refine wp_seq ?_
  refine sx_list ?_
  refine l_box f rfl rfl rfl rfl rfl ?_; clear f A; intro b1 W2 eb1 hb3 rb1 A f; dsimp only [Value.cells] at rb1
  have z_B0_b1 := B0.size; rw [eb1] at z_B0_b1
  replace B0 := Below.next B0 hb3
  refine l_do f rfl rfl rfl (y_assign rfl rfl) ?_; clear f A; intro A f
  refine wpList_nil ?_
  refine x_tn ?_
  refine wp_seq ?_
  refine wp_seq ?_
  refine sx_list ?_
  refine l_do f rfl rfl rfl (y_move rfl rfl) ?_; clear f A; intro A f
  refine l_do f rfl rfl rfl (y_field rfl rfl (fo rfl)) ?_; clear f A; intro A f
  refine l_do f rfl rfl rfl (y_load1 rfl rfl (ag rfl) (rowl (rowq rb1) rfl)) ?_; clear f A; intro A f
  obtain ⟨g0, o0, z0, fo0, fn0, fc0, to0, tn0, tc0, ha0, c00, c10, c20, c30, hat0, hX0⟩ := hx.zones.at (0) (by omega)
  replace c00 := St.of c00; replace c10 := St.of c10; replace c20 := St.of c20; replace c30 := St.of c30
  refine l_do f rfl rfl rfl (y_index (k := 0) rfl rfl (by first | rfl | assumption) rfl (es rfl) (by omega)) ?_; clear f A; intro A f
  refine l_do f rfl rfl rfl (y_field rfl rfl (fo rfl)) ?_; clear f A; intro A f
  refine l_do f rfl rfl rfl (y_load1 rfl rfl (ag rfl) (by first | assumption | exact St.q c00 B0 | exact St.q c10 B0 | exact St.q c20 B0 | exact St.q c30 B0)) ?_; clear f A; intro A f
  refine l_if _ f rfl rfl rfl (y_lss rfl rfl rfl) ?_ ?_
  · clear f A; intro c4 A f
    refine wpList_nil ?_
    refine x_tn ?_
    refine x_condT f rfl ?_
    refine wp_seq ?_
    refine sx_list ?_
    refine l_do f rfl rfl rfl (y_assign rfl rfl) ?_; clear f A; intro A f
    refine wpList_nil ?_
    refine x_tn ?_
    refine wp_ret ?_
    refine x_tr ?_
    refine x_ret1 f rfl rfl ?_
    -- return 0: c4@11
    have hi : zIdx x.hp p = 0 := by
      unfold zIdx
      rw [zoneOf_hp]
      exact if_pos (by rw [hX0.out]; dsimp only; omega)
    exact ⟨by rw [hi]; rfl, B0⟩
  · clear f A; intro c4 A f
    refine wpList_nil ?_
    refine x_tn ?_
    refine x_condF f rfl ?_
    refine wp_skip ?_
    refine x_tn ?_
    refine wp_seq ?_
    refine sx_list ?_
    refine l_do f rfl rfl rfl (y_assign rfl rfl) ?_; clear f A; intro A f
    refine wpList_nil ?_
    refine x_tn ?_
    refine wp_ret ?_
    refine x_ret1 f rfl rfl ?_
    -- return 1: ¬c4@11
    have hi : zIdx x.hp p = 1 := by
      unfold zIdx
      rw [zoneOf_hp]
      exact if_neg (by rw [hX0.out]; dsimp only; omega)
    exact ⟨by rw [hi]; rfl, B0⟩

set_option maxRecDepth 10000 in
set_option maxHeartbeats 4000000 in
theorem zoneAt_c (w : World) (x : Hx) (p : Int) (hx : x.At w) (hz : x.zn = 2) (h1 : (x.zs.getD 1 .zero).z.f = (x.zs.getD 0 .zero).z.t) :
    Calls Try.prog 52 #[.agg #[.slice x.zo x.zn x.zc, .slice x.mo x.mn x.mc, .int .i64 x.cpus, .slice x.lo x.ln x.lc, .slice x.vo x.vn x.vc], .int .i64 p] w fun e w' => e = .returned (.int .i64 (zIdx x.hp p : Nat)) ∧ Below w.heap.size w w' := by
  have B0 := Below.refl w.heap.size w
  refine sx_enter (args := [_, _]) 12 Try.func52 rfl rfl rfl ?_
  intro A f
  refine wp_seq ?_
  refine sx_list ?_
  refine l_box f rfl rfl rfl rfl rfl ?_; clear f A; intro b1 W2 eb1 hb3 rb1 A f; dsimp only [Value.cells] at rb1
  have z_B0_b1 := B0.size; rw [eb1] at z_B0_b1
  replace B0 := Below.next B0 hb3
  refine l_do f rfl rfl rfl (y_assign rfl rfl) ?_; clear f A; intro A f
  refine wpList_nil ?_
  refine x_tn ?_
  refine wp_seq ?_
  refine wp_seq ?_
  refine sx_list ?_
  refine l_do f rfl rfl rfl (y_move rfl rfl) ?_; clear f A; intro A f
  refine l_do f rfl rfl rfl (y_field rfl rfl (fo rfl)) ?_; clear f A; intro A f
  refine l_do f rfl rfl rfl (y_load1 rfl rfl (ag rfl) (rowl (rowq rb1) rfl)) ?_; clear f A; intro A f
  obtain ⟨g0, o0, z0, fo0, fn0, fc0, to0, tn0, tc0, ha0, c00, c10, c20, c30, hat0, hX0⟩ := hx.zones.at (1) (by omega)
  replace c00 := St.of c00; replace c10 := St.of c10; replace c20 := St.of c20; replace c30 := St.of c30
  refine l_do f rfl rfl rfl (y_index (k := 1) rfl rfl (by first | rfl | assumption) rfl (es rfl) (by omega)) ?_; clear f A; intro A f
  refine l_do f rfl rfl rfl (y_field rfl rfl (fo rfl)) ?_; clear f A; intro A f
  refine l_do f rfl rfl rfl (y_load1 rfl rfl (ag rfl) (by first | assumption | exact St.q c00 B0 | exact St.q c10 B0 | exact St.q c20 B0 | exact St.q c30 B0)) ?_; clear f A; intro A f
  refine l_if _ f rfl rfl rfl (y_geq rfl rfl rfl) ?_ ?_
  · clear f A; intro c4 A f
    refine wpList_nil ?_
    refine x_tn ?_
    refine x_condT f rfl ?_
    refine wp_seq ?_
    refine sx_list ?_
    refine l_do f rfl rfl rfl (y_assign rfl rfl) ?_; clear f A; intro A f
    refine wpList_nil ?_
    refine x_tn ?_
    refine wp_ret ?_
    refine x_tr ?_
    refine x_ret1 f rfl rfl ?_
    -- return 0: c4@11
    have hi : zIdx x.hp p = 1 := by
      unfold zIdx
      rw [zoneOf_hp]
      exact if_neg (by rw [← h1, hX0.out]; dsimp only; omega)
    exact ⟨by rw [hi]; rfl, B0⟩
  · clear f A; intro c4 A f
    refine wpList_nil ?_
    refine x_tn ?_
    refine x_condF f rfl ?_
    refine wp_skip ?_
    refine x_tn ?_
    refine wp_seq ?_
    refine sx_list ?_
    refine l_do f rfl rfl rfl (y_assign rfl rfl) ?_; clear f A; intro A f
    refine wpList_nil ?_
    refine x_tn ?_
    refine wp_ret ?_
    refine x_ret1 f rfl rfl ?_
    -- return 1: ¬c4@11
    have hi : zIdx x.hp p = 0 := by
      unfold zIdx
      rw [zoneOf_hp]
      exact if_pos (by rw [← h1, hX0.out]; dsimp only; omega)
    exact ⟨by rw [hi]; rfl, B0⟩

end Go.Proofs.Ytbjlbmofdnkmiaa

/-
  OWN TEXT. A zone that may be stays one when a block comes back: plain mathematics.
-/
namespace Go.Proofs.Ytbjlbmofdnkmiaa.Kit

/-- The first one ends ahead of the second one, and they are not beside each other. -/
def Ahead (p q : Bk) : Prop := p.a + pw p.o ≤ q.a ∧ ¬ besideP p q
/-- Each of them may be in the zone. -/
def AllIn (f t : Int) (l : List Bk) : Prop := ∀ b ∈ l, blkIn f t b.a b.o ∧ typeOk b.t

theorem freeOk_pw {f t lo : Int} {pv : Option Bk} {l : List Bk} (h : FreeOk f t lo pv l) : AllIn f t l ∧ (∀ b ∈ l, lo ≤ b.a) ∧ l.Pairwise Ahead := by
  induction l generalizing lo pv with
  | nil => exact ⟨fun b hb => by simp at hb, fun b hb => by simp at hb, List.Pairwise.nil⟩
  | cons b l ih =>
    obtain ⟨h1, h2, h3, _, h5⟩ := h
    obtain ⟨i1, i2, i3⟩ := ih h5
    have hp := pw_pos b.o
    refine ⟨fun x hx => ?_, fun x hx => ?_, List.Pairwise.cons (fun x hx => ⟨i2 x hx, ?_⟩) i3⟩
    · rcases List.mem_cons.1 hx with rfl | hx
      · exact ⟨h1, h2⟩
      · exact i1 x hx
    · rcases List.mem_cons.1 hx with rfl | hx
      · exact h3
      · have := i2 x hx; omega
    · cases l with
      | nil => simp at hx
      | cons c l =>
        obtain ⟨_, _, k3, k4, _⟩ := h5
        rcases List.mem_cons.1 hx with rfl | hx
        · exact k4 b rfl
        · have := (List.pairwise_cons.1 i3).1 x hx
          rintro ⟨_, e2, e3, _⟩
          have := this.1
          have hc := pw_pos c.o
          rw [← e2] at e3
          omega

theorem freeOk_of {f t lo : Int} {pv : Option Bk} {l : List Bk} (h1 : AllIn f t l) (h2 : ∀ b ∈ l, lo ≤ b.a) (h3 : l.Pairwise Ahead) (h4 : ∀ p, pv = some p → ∀ b ∈ l, ¬ besideP p b) : FreeOk f t lo pv l := by
  induction l generalizing lo pv with
  | nil => trivial
  | cons b l ih =>
    have hb := h1 b (by simp)
    have hp := List.pairwise_cons.1 h3
    exact ⟨hb.1, hb.2, h2 b (by simp), fun p e => h4 p e b (by simp), ih (fun x hx => h1 x (by simp [hx])) (fun x hx => (hp.1 x hx).1) hp.2 (fun p e x hx => by cases e; exact (hp.1 x hx).2)⟩

theorem free_iff {f t : Int} {l : List Bk} : FreeOk f t f none l ↔ AllIn f t l ∧ l.Pairwise Ahead :=
  ⟨fun h => ⟨(freeOk_pw h).1, (freeOk_pw h).2.2⟩, fun ⟨h1, h2⟩ => freeOk_of h1 (fun b hb => (h1 b hb).1.2.1) h2 (fun p e => by cases e)⟩

/-- It has no page in common with any of them. -/
def NoOv (l : List Bk) (a o : Int) : Prop := ∀ b ∈ l, b.a + pw b.o ≤ a ∨ a + pw o ≤ b.a
theorem noOv_of {l : List Bk} {a o : Int} (h : ¬ ovlP l a o) : NoOv l a o := by
  intro b hb
  obtain ⟨i, hi, rfl⟩ := List.getElem_of_mem hb
  by_cases h1 : l[i].a + pw l[i].o ≤ a
  · exact .inl h1
  · by_cases h2 : a + pw o ≤ l[i].a
    · exact .inr h2
    · exact absurd ⟨i, hi, by rw [List.getD_eq_getElem?_getD, List.getElem?_eq_getElem hi]; exact ⟨by simp only [Option.getD_some]; omega, by simp only [Option.getD_some]; omega⟩⟩ h

theorem ahead_or {l : List Bk} (h : l.Pairwise Ahead) {p q : Bk} (hp : p ∈ l) (hq : q ∈ l) (hne : ¬ (p.a = q.a ∧ p.o = q.o)) : Ahead p q ∨ Ahead q p := by
  obtain ⟨i, hi, rfl⟩ := List.getElem_of_mem hp
  obtain ⟨j, hj, rfl⟩ := List.getElem_of_mem hq
  rw [List.pairwise_iff_getElem] at h
  by_cases e : i < j
  · exact .inl (h i j hi hj e)
  · by_cases g : j < i
    · exact .inr (h j i hj hi g)
    · obtain rfl : i = j := by omega
      exact absurd ⟨rfl, rfl⟩ hne

theorem beside_cases {a o : Int} (h0 : 0 ≤ o) (h4 : o < 4) (hm : a % pw o = 0) : pw (o + 1) = 2 * pw o ∧ ((a % pw (o + 1) = 0 ∧ besideA a o = a + pw o) ∨ (¬ a % pw (o + 1) = 0 ∧ besideA a o = a - pw o ∧ a % pw (o + 1) = pw o)) := by
  rcases (show o = 0 ∨ o = 1 ∨ o = 2 ∨ o = 3 by omega) with rfl | rfl | rfl | rfl
  all_goals
    unfold besideA
    simp only [pw_0, pw_1, pw_2, pw_3, pw_4, show (0 : Int) + 1 = 1 from rfl, show (1 : Int) + 1 = 2 from rfl, show (2 : Int) + 1 = 3 from rfl, show (3 : Int) + 1 = 4 from rfl] at hm ⊢
    refine ⟨by omega, ?_⟩
    split
    · exact .inl ⟨by assumption, rfl⟩
    · exact .inr ⟨by assumption, rfl, by omega⟩

/-- What holds of a block that comes back, while it is joined. -/
structure GoI (f t : Int) (l : List Bk) (a o : Int) : Prop where
  all : AllIn f t l
  pw : l.Pairwise Ahead
  blk : blkIn f t a o
  no : NoOv l a o

theorem go_step {f t : Int} {l : List Bk} {a o : Int} (h : GoI f t l a o) (ho : o < 4) (hb : hasB l (besideA a o) o = true) : GoI f t (dropB l (besideA a o) o) (if besideA a o < a then besideA a o else a) (o + 1) := by
  obtain ⟨⟨o0, o4⟩, a1, a2, a3⟩ := h.blk
  have hbi : blkIn f t (besideA a o) o := hasB_in hb (fun b hb => (h.all b hb).1)
  refine ⟨fun b hb => h.all b (dropB_mem hb), List.Pairwise.filter _ h.pw, join_in h.blk hbi ho, fun b hb' => ?_⟩
  have hbl := dropB_mem hb'
  have hnb : isB (besideA a o) o b = false := by
    have := (List.mem_filter.1 hb').2
    simpa using this
  have hno := h.no b hbl
  unfold hasB at hb
  rw [List.any_eq_true] at hb
  obtain ⟨x, hx, hxi⟩ := hb
  obtain ⟨x1, x2⟩ := of_decide_eq_true hxi
  have hor := ahead_or h.pw hbl hx (by rw [x1, x2]; exact of_decide_eq_false hnb)
  have hp := pw_pos b.o
  have hpo := pw_pos o
  obtain ⟨e2, hc⟩ := beside_cases o0 ho a3
  rw [e2]
  unfold Ahead at hor
  rw [x1, x2] at hor
  rcases hc with ⟨_, hc⟩ | ⟨_, hc, _⟩
  · rw [hc] at hor ⊢
    rw [if_neg (by omega)]
    rcases hor with ⟨g, _⟩ | ⟨g, _⟩ <;> omega
  · rw [hc] at hor ⊢
    rw [if_pos (by omega)]
    rcases hor with ⟨g, _⟩ | ⟨g, _⟩ <;> omega

/-- What holds when it is joined. -/
theorem go_all {f t : Int} : ∀ (n : Nat) (l : List Bk) (a o : Int), (4 - o).toNat = n → GoI f t l a o →
    GoI f t (backGo n l a o).1 (backGo n l a o).2.1 (backGo n l a o).2.2 ∧ ((backGo n l a o).2.2 = 4 ∨ hasB (backGo n l a o).1 (besideA (backGo n l a o).2.1 (backGo n l a o).2.2) (backGo n l a o).2.2 = false) := by
  intro n
  induction n with
  | zero =>
    intro l a o hn h
    have := h.blk.1.2
    exact ⟨h, .inl (by show o = 4; omega)⟩
  | succ n ih =>
    intro l a o hn h
    unfold backGo
    by_cases hb : hasB l (besideA a o) o = true
    · rw [if_pos hb]
      exact ih _ _ _ (by omega) (go_step h (by omega) hb)
    · rw [if_neg hb]
      exact ⟨h, .inr (by simpa using hb)⟩

theorem mem_addB {l : List Bk} {b x : Bk} : x ∈ addB l b ↔ x = b ∨ x ∈ l := by
  induction l with
  | nil => simp [addB]
  | cons y l ih =>
    unfold addB
    split
    · simp
    · simp only [List.mem_cons, ih]
      constructor
      · rintro (h | h | h)
        · exact .inr (.inl h)
        · exact .inl h
        · exact .inr (.inr h)
      · rintro (h | h | h)
        · exact .inr (.inl h)
        · exact .inl h
        · exact .inr (.inr h)

theorem addB_pw {l : List Bk} {b : Bk} (h : l.Pairwise Ahead) (hno : NoOv l b.a b.o) (h1 : ∀ x ∈ l, ¬ besideP x b) (h2 : ∀ x ∈ l, ¬ besideP b x) : (addB l b).Pairwise Ahead := by
  have hp := pw_pos b.o
  induction l with
  | nil => exact List.pairwise_singleton _ _
  | cons x l ih =>
    have hx := List.pairwise_cons.1 h
    have hpx := pw_pos x.o
    have hnx := hno x (by simp)
    unfold addB
    split
    · rename_i hg
      refine List.Pairwise.cons (fun y hy => ⟨?_, h2 y hy⟩) h
      have hny := hno y hy
      rcases List.mem_cons.1 hy with rfl | hy'
      · omega
      · have := (hx.1 y hy').1
        have hpy := pw_pos y.o
        omega
    · rename_i hg
      refine List.Pairwise.cons (fun y hy => ?_) (ih hx.2 (fun y hy => hno y (by simp [hy])) (fun y hy => h1 y (by simp [hy])) (fun y hy => h2 y (by simp [hy])))
      rcases mem_addB.1 hy with rfl | hy
      · exact ⟨by omega, h1 x (by simp)⟩
      · exact hx.1 y hy

/-- A ZONE THAT MAY BE stays one when a block comes back. -/
theorem backZ_may {z : Zn} {a o : Int} (h : ZMay z) (hA : blkIn z.f z.t a o) (hv : ¬ ovlP z.free a o) : ZMay (backZ z a o) := by
  obtain ⟨q1, q2⟩ := free_iff.1 h.free
  obtain ⟨G, hl⟩ := go_all (f := z.f) (t := z.t) (4 - o).toNat z.free a o rfl ⟨q1, q2, hA, noOv_of hv⟩
  obtain ⟨R, hR⟩ : ∃ R, backGo (4 - o).toNat z.free a o = R := ⟨_, rfl⟩
  have hz : backZ z a o = ⟨z.f, z.t, addB R.1 ⟨R.2.1, R.2.2, z.types.getD ((R.2.1 - z.f) / 8).toNat 0⟩, z.types⟩ := by unfold backZ; rw [hR]
  rw [hR] at G hl
  obtain ⟨⟨o0, o4⟩, a1, a2, a3⟩ := G.blk
  have hlen := h.len
  have hty : typeOk (z.types.getD ((R.2.1 - z.f) / 8).toNat 0) := h.ty _ (by omega)
  rw [hz]
  refine ⟨h.new, h.len, h.ty, free_iff.2 ⟨fun b hb => ?_, addB_pw G.pw G.no (fun x hx => ?_) (fun x hx => ?_)⟩⟩
  · rcases mem_addB.1 hb with rfl | hb
    · exact ⟨G.blk, hty⟩
    · exact G.all b hb
  · rintro ⟨b1, b2, b3, b4⟩
    dsimp only at b1 b2 b3 b4
    obtain ⟨_, hc⟩ := beside_cases o0 b1 a3
    have hh : besideA R.2.1 R.2.2 = x.a := by
      rcases hc with ⟨g, _⟩ | ⟨_, g, _⟩
      · exfalso
        rw [← b3] at g
        rcases (show R.2.2 = 0 ∨ R.2.2 = 1 ∨ R.2.2 = 2 ∨ R.2.2 = 3 by omega) with e | e | e | e
        all_goals
          rw [e] at g b4
          simp only [pw_0, pw_1, pw_2, pw_3, pw_4, show (0 : Int) + 1 = 1 from rfl, show (1 : Int) + 1 = 2 from rfl, show (2 : Int) + 1 = 3 from rfl, show (3 : Int) + 1 = 4 from rfl] at g b4
          omega
      · omega
    rcases hl with g | g
    · omega
    · rw [hh] at g
      unfold hasB at g
      rw [List.any_eq_false] at g
      exact g x hx (decide_eq_true ⟨rfl, b2⟩)
  · rintro ⟨b1, b2, b3, b4⟩
    dsimp only at b1 b2 b3 b4
    rw [← b2] at b1 b3 b4
    have hh : besideA R.2.1 R.2.2 = x.a := by unfold besideA; rw [if_pos b4]; exact b3
    rcases hl with g | g
    · omega
    · rw [hh] at g
      unfold hasB at g
      rw [List.any_eq_false] at g
      exact g x hx (decide_eq_true ⟨rfl, b2.symm⟩)

end Go.Proofs.Ytbjlbmofdnkmiaa.Kit
