/-
  OWN TEXTS.
-/
import Derived.Test.YtjohdbiipeedkaaGreatDoorPart8
set_option maxRecDepth 10000
set_option maxHeartbeats 4000000
namespace Go.Proofs.YtjohdbiipeedkaaGreatDoor
open Go Go.RowKit Go.Proofs.YtjohdbiipeedkaaGreatDoor.Kit
theorem zTake_ok (w : World) (fo : Option Addr) (fn fc : Nat) (to_ : Option Addr) (tn tc : Nat) (z : Zn) (o t : Int) (i : Nat) (h : ZnAt w fo fn to_ tn z) (hM : ZMay z) (hT : TabAt w) (ho : ordOk o) (ht : typeOk t) (hC : chooseI z.free o t = i) :
    Calls Tryz.prog 90 #[.agg #[.int .i64 z.f, .int .i64 z.t, .slice fo fn fc, .slice to_ tn tc], .int .i64 o, .int .i64 t] w fun e w' => RetZone3 w.heap.size w' (takeZ z o t i) (z.free.getD i .zero).a e ∧ Below w.heap.size w w' := by
 obtain ⟨j, e, hj, hob⟩ := choose_in (l := z.free) (o := o) (t := t) (by omega)
 obtain rfl : j = i := by omega
 have hlen := h.free.len
 have htl := h.types.len
 obtain ⟨N, rfl⟩ : ∃ N, fn = N + 1 := ⟨fn - 1, by omega⟩
 have hblk := freeOk_at hM.free hj rfl
 obtain ⟨⟨⟨b0, b4⟩, a1, a2, a3⟩, _⟩ := hblk
 obtain ⟨n1, n2, n3, n4, n5⟩ := hM.new
 have hl := hM.len
 unfold takeZ
 dsimp only
 generalize hb : z.free.getD j .zero = b at *
 obtain ⟨ba, bo, bt⟩ := b
 dsimp only at *
 have hend := blk_end (o := bo) ⟨b0, b4⟩ a2 a3 n5
 have hp := pw_pos bo
 by_cases hs : steals ⟨ba, bo, bt⟩ t
 ·rw [if_pos hs]
  have eF : ((grpF z ⟨ba, bo, bt⟩).toNat : Int) = (ba - z.f) / 8 := by unfold grpF; dsimp only; omega
  have eL : ((grpL z ⟨ba, bo, bt⟩).toNat : Int) = (ba + pw bo - 1 - z.f) / 8 := by unfold grpL; dsimp only; omega
  have := zTake_steal w fo N fc to_ tn tc z o t ba bo bt j h hM hT ho ht e (by omega) hb hob (grpF z ⟨ba, bo, bt⟩).toNat (grpL z ⟨ba, bo, bt⟩).toNat eF.symm eL.symm (by omega) (by simpa using hs.1) hs.2
  rw [eF, eL] at this
  exact this
 rw [if_neg hs]
 refine zTake_plain w fo N fc to_ tn tc z o t ba bo bt j h hM hT ho ht e (by omega) hb hob ?_
 unfold steals at hs
 by_cases q : bt = t
 ·left; simpa using q
 right; exact Int.not_le.1 (fun g => hs ⟨q, g⟩)
end Go.Proofs.YtjohdbiipeedkaaGreatDoor
namespace Go.Proofs.YtjohdbiipeedkaaGreatDoor.Kit
open Go Go.RowKit
section
variable {P : Program} {l : List Oper} {Q : Exit → Act → World → Prop} {S : World → Prop} {n N : Nat} {listed : Array Bool} {A : Act} {L : List (Nat × Value)} {o o' : Oper} {w : World}
theorem a_start {id : Nat} (S : World → Prop) (hm : P.follows .mixedOrders = true) (hn : l.length = n) (h : wpAnyH P .any l.toArray Q S n (Array.replicate n false) A { w with drawn := w.drawn + 1 }) : (Code.region id l.toArray true).wp P Q A w := by
 refine wp_region_held (S := S) hm ?_
 subst hn
 simpa using h
theorem a_do (k : Nat) {d : Nat} {v : Value} (f : Fr A N L) (hk : l[k]? = some o) (hc : (Region.noSelect l.toArray && Region.free .any l.toArray listed k && (Region.ready .any l.toArray listed).contains k) = true) (hQ : Blind Q) (hS : S w) (hd : o.dst = some d) (hN : Nat.blt d N = true) (hg : o.guard = none) (hy : YC P S L o v)
    (h : ∀ A', Fr A' N ((d, v) :: L) → wpAnyH P .any l.toArray Q S n (listed.setIfInBounds k true) A' w) : wpAnyH P .any l.toArray Q S (n + 1) listed A w := by
 simp only [Bool.and_eq_true] at hc
 refine wpAnyH_take (by simpa using hk) hc.1.1 hc.1.2 hc.2 (fun c a w => hQ c a w _ _) (.inl ⟨by simp [Region.wanted, hg], hy A.eval (fun x u hu => f.ev hu)⟩) hS ?_
 rw [hd]
 exact h _ (f.put d v (by simpa [Nat.blt_eq] using hN))
theorem a_one (k : Nat) (hk : l[k]? = some o) (hr : Region.ready .any l.toArray listed = [k]) (hg : o.guard = none)
    (h : o.wp P A w (fun a' w' => S w' ∧ wpAnyH P .any l.toArray Q S n (listed.setIfInBounds k true) a' w') Q) : wpAnyH P .any l.toArray Q S (n + 1) listed A w := by
 refine wpAnyH_all hr (by simp) ?_
 intro i hi
 obtain rfl : i = k := by simpa using hi
 unfold wpOp
 rw [show l.toArray[i]? = some o by simpa using hk]
 simp only [Region.wanted, hg, if_true]
 exact .inl h
theorem a_two (k j : Nat) (hk : l[k]? = some o) (hj : l[j]? = some o') (hr : Region.ready .any l.toArray listed = [k, j]) (hg : o.guard = none) (hg' : o'.guard = none)
    (h : o.wp P A w (fun a' w' => S w' ∧ wpAnyH P .any l.toArray Q S n (listed.setIfInBounds k true) a' w') Q)
    (h' : o'.wp P A w (fun a' w' => S w' ∧ wpAnyH P .any l.toArray Q S n (listed.setIfInBounds j true) a' w') Q) : wpAnyH P .any l.toArray Q S (n + 1) listed A w := by
 refine wpAnyH_all hr (by simp) ?_
 intro i hi
 unfold wpOp
 rcases (show i = k ∨ i = j by simpa using hi) with rfl | rfl
 ·rw [show l.toArray[i]? = some o by simpa using hk]
  simp only [Region.wanted, hg, if_true]
  exact .inl h
 ·rw [show l.toArray[i]? = some o' by simpa using hj]
  simp only [Region.wanted, hg', if_true]
  exact .inl h'
theorem a_put {d : Nat} {v : Value} (f : Fr A N L) (hd : o.dst = some d) (hN : Nat.blt d N = true) (h : ∀ A', Fr A' N ((d, v) :: L) → wpAnyH P .any l.toArray Q S n listed A' w) : wpAnyH P .any l.toArray Q S n listed (A.put o.dst v) w := by
 rw [hd]
 exact h _ (f.put d v (by simpa [Nat.blt_eq] using hN))
theorem x_put {d : Nat} {v : Value} (f : Fr A N L) (hd : o.dst = some d) (hN : Nat.blt d N = true) (h : ∀ A', Fr A' N ((d, v) :: L) → Q .normal A' w) : Q .normal (A.put o.dst v) w := by
 rw [hd]
 exact h _ (f.put d v (by simpa [Nat.blt_eq] using hN))
theorem a_end (hr : Region.ready .any l.toArray listed = []) (h : Q .normal A w) : wpAnyH P .any l.toArray Q S 0 listed A w := ⟨hr, h⟩
theorem x_cut {id : Nat} {ops : Array Oper} {d : Bool} (I : Act → World → Prop) (h : (Code.region id ops d).wp P (fun e A W => e = .normal ∧ I A W) A w) (k : ∀ A W, I A W → Q .normal A W) : (Code.region id ops d).wp P Q A w :=
 Code.wp_mono (fun _ a w ⟨he, hI⟩ => he ▸ k a w hI) h
theorem blind_cut {I : Act → World → Prop} : Blind (fun e A W => e = Exit.normal ∧ I A W) := fun _ _ _ _ _ h => nomatch h.1
theorem x_retc2 {fn : Func} {R : Ending → World → Prop} {t u s : Tmp} {ty tt : TypeId} {b n : Nat} {cs : List Value} {v v' : Value} (f : Fr A N L) (hr : fn.results = #[.cell t ty, .tmp u, .tmp s]) (hv : look L t = some (.pointer (some ⟨b, 0, none⟩))) (hu : look L u = some v) (hs' : look L s = some v') (ht : isAggB P ty = some (some n)) (hrow : w.heap[b]? = some (.cells cs.toArray tt (0, 0))) (hn : cs.length = n)
    (h : R (.returned (.tuple #[.agg cs.toArray, v, v'])) w) : bodyPost P fn R .ret A w := by
 refine ⟨f.defs, _, ?_, h⟩
 have e := f.at_ t _ hv
 rw [Array.getD_eq_getD_getElem?] at e
 have e' := f.at_ u _ hu
 rw [Array.getD_eq_getD_getElem?] at e'
 have e'' := f.at_ s _ hs'
 rw [Array.getD_eq_getD_getElem?] at e''
 have hl := cell_run ht hrow hn
 obtain ⟨q, hs⟩ : ∃ q, loadVar ty ⟨b, 0, none⟩ = q := ⟨_, rfl⟩
 rw [hs] at hl
 simp [results, hr, e, e', e'', asAddr, hs, hl]
end
end Go.Proofs.YtjohdbiipeedkaaGreatDoor.Kit
namespace Go.Proofs.YtjohdbiipeedkaaGreatDoor
open Go Go.RowKit Go.Proofs.YtjohdbiipeedkaaGreatDoor.Kit
def hpO (H : Hp) (r : Option (Hp × Int)) : Hp := (r.map (·.1)).getD H
def atO (r : Option (Hp × Int)) : Int := (r.map (·.2)).getD 0
theorem tab_row {w w' : World} (h : TabAt w) (hb : w'.heap[0]? = w.heap[0]?) : TabAt w' := by
 have e : ∀ o, w'.cell? ⟨0, o, none⟩ = w.cell? ⟨0, o, none⟩ := fun o => World.cell?_of_block (w := w) hb
 exact ⟨by rw [e]; exact h.a0, by rw [e]; exact h.a1, by rw [e]; exact h.a2, by rw [e]; exact h.a3, by rw [e]; exact h.a4, by rw [e]; exact h.a5⟩
theorem TabAt.pos {w : World} (h : TabAt w) : 0 < w.heap.size := World.block_lt_of_cell? w _ h.a0
theorem TabAt.but {w w' : World} {b : Nat} (h : TabAt w) (hb : But b w w') (h0 : 0 < b) : TabAt w' := tab_row h (hb.block 0 h.pos (by omega))
theorem TabAt.ex {w w' : World} {P : Nat → Prop} (h : TabAt w) (hb : Ex P w w') (h0 : ¬ P 0) : TabAt w' := tab_row h (hb.block 0 h.pos h0)
def TkR (B : Nat) (W : World) (z : Zn) (o t F T : Int) (fo : Option Addr) (fn : Nat) (to_ : Option Addr) (tn : Nat) (a c : Int) : Prop :=
 (chooseI z.free o t < 0 ∧ c = 6) ∨ (c = 0 ∧ ∃ i : Nat, chooseI z.free o t = i ∧ a = (z.free.getD i .zero).a ∧ F = (takeZ z o t i).f ∧ T = (takeZ z o t i).t ∧ ZnAt W fo fn to_ tn (takeZ z o t i) ∧ Fresh B fo ∧ Fresh B to_)
theorem TkR.below {B : Nat} {W W' : World} {z : Zn} {o t F T : Int} {fo : Option Addr} {fn : Nat} {to_ : Option Addr} {tn : Nat} {a c : Int} (h : TkR B W z o t F T fo fn to_ tn a c) (hb : Below W.heap.size W W') : TkR B W' z o t F T fo fn to_ tn a c := by
 rcases h with h | ⟨h1, i, h2, h3, h4, h5, h6, h7⟩
 ·exact .inl h
 exact .inr ⟨h1, i, h2, h3, h4, h5, h6.below hb, h7⟩
theorem TkR.weaken {B B' : Nat} {W : World} {z : Zn} {o t F T : Int} {fo : Option Addr} {fn : Nat} {to_ : Option Addr} {tn : Nat} {a c : Int} (h : TkR B W z o t F T fo fn to_ tn a c) (hb : B' ≤ B) : TkR B' W z o t F T fo fn to_ tn a c := by
 rcases h with h | ⟨h1, i, h2, h3, h4, h5, h6, h7, h8⟩
 ·exact .inl h
 exact .inr ⟨h1, i, h2, h3, h4, h5, h6, fun a ha => by have := h7 a ha; omega, fun a ha => by have := h8 a ha; omega⟩
theorem TkR.but {B b : Nat} {W W' : World} {z : Zn} {o t F T : Int} {fo : Option Addr} {fn : Nat} {to_ : Option Addr} {tn : Nat} {a c : Int} (h : TkR B W z o t F T fo fn to_ tn a c) (hb : But b W W') (hn : b < B) : TkR B W' z o t F T fo fn to_ tn a c := by
 rcases h with h | ⟨h1, i, h2, h3, h4, h5, h6, h7, h8⟩
 ·exact .inl h
 exact .inr ⟨h1, i, h2, h3, h4, h5, ⟨blks_but h6.free hb (fun _ a ha => by have := h7 a ha; omega), nums_but h6.types hb (fun _ a ha => by have := h8 a ha; omega)⟩, h7, h8⟩
theorem zTake_both (w : World) (fo : Option Addr) (fn fc : Nat) (to_ : Option Addr) (tn tc : Nat) (z : Zn) (o t : Int) (h : ZnAt w fo fn to_ tn z) (hM : ZMay z) (hT : TabAt w) (ho : ordOk o) (ht : typeOk t) :
    Calls Tryz.prog 90 #[.agg #[.int .i64 z.f, .int .i64 z.t, .slice fo fn fc, .slice to_ tn tc], .int .i64 o, .int .i64 t] w fun e w' => ∃ F T ko kn kc lo ln lc a c, e = .returned (.tuple #[.agg #[.int .i64 F, .int .i64 T, .slice ko kn kc, .slice lo ln lc], .int .i64 a, .int .i64 c]) ∧ TkR w.heap.size w' z o t F T ko kn lo ln a c ∧ Below w.heap.size w w' := by
 by_cases hC : chooseI z.free o t < 0
 ·refine (zTake_room w fo fn fc to_ tn tc z o t h hM hT ho ht hC).mono ?_
  rintro e w' ⟨rfl, hb⟩
  exact ⟨0, 0, none, 0, 0, none, 0, 0, 0, 6, rfl, .inl ⟨hC, rfl⟩, hb⟩
 obtain ⟨i, hi⟩ : ∃ i : Nat, chooseI z.free o t = i := ⟨_, (Int.toNat_of_nonneg (by omega)).symm⟩
 refine (zTake_ok w fo fn fc to_ tn tc z o t i h hM hT ho ht hi).mono ?_
 rintro e w' ⟨⟨ko, kn, kc, lo, ln, lc, rfl, h1, h2, h3⟩, hb⟩
 exact ⟨_, _, ko, kn, kc, lo, ln, lc, _, 0, rfl, .inr ⟨rfl, i, hi, rfl, rfl, rfl, h1, h2, h3⟩, hb⟩
theorem y_shl1 {C : World → Prop} {L : List (Nat × Value)} {o : Oper} {x y : Operand} {u : TypeId} {k : Int} (ho : o.op = .binOp .shl 3 x y u) (hx : ev L x = some (.int .i64 1)) (hy : ev L y = some (.int .i64 k)) (hk : ordOk k) : YC Tryz.prog C L o (.int .i64 (pw k)) := by
 intro ρ hρ wx _
 have e : (Op.shift .shl .i64 1 .i64 k).run Tryz.prog wx = .ok (.int .i64 (pw k)) wx := shl_one k hk wx
 simp [execOp, ho, hρ _ _ hx, hρ _ _ hy, e, eqGuard, go_sem]
theorem Kit.ZsOk.take {H : Hp} (h : ZsOk H) {z : Nat} (hz : z < 2) {o t : Int} (ho : ordOk o) (ht : typeOk t) {i : Nat} (hC : chooseI (H.zones.getD z ⟨0, 0, [], []⟩).free o t = i) :
    ZsOk { H with zones := H.zones.set z (takeZ (H.zones.getD z ⟨0, 0, [], []⟩) o t i) } := by
 have hm : ZMay (H.zones.getD z ⟨0, 0, [], []⟩) := by rcases (show z = 0 ∨ z = 1 by omega) with rfl | rfl; (exact h.m0); exact h.m1
 obtain ⟨j, e, hj, hob⟩ := choose_in (l := (H.zones.getD z ⟨0, 0, [], []⟩).free) (o := o) (t := t) (by omega)
 obtain rfl : j = i := by omega
 have hfi := (free_iff.1 hm.free).1 _ (getD_mem (d := Bk.zero) hj)
 have hN := takeZ_may hm ho.1 ht hj hfi.2 hfi.1.2.1
 have hf : (takeZ (H.zones.getD z ⟨0, 0, [], []⟩) o t j).f = (H.zones.getD z ⟨0, 0, [], []⟩).f ∧ (takeZ (H.zones.getD z ⟨0, 0, [], []⟩) o t j).t = (H.zones.getD z ⟨0, 0, [], []⟩).t := by
  unfold takeZ stolenZ
  dsimp only
  split <;> exact ⟨rfl, rfl⟩
 obtain ⟨zs, mins, cpus, ls, live⟩ := H
 have hn : zs.length = 2 := h.n
 match zs, hn with
 | [a, b], _ =>
  rcases (show z = 0 ∨ z = 1 by omega) with rfl | rfl
  ·exact ⟨rfl, hN, h.m1, hf.1.trans h.f0, h.f1.trans hf.2.symm, h.t1⟩
  exact ⟨rfl, h.m0, hN, h.f0, hf.1.trans h.f1, hf.2.trans h.t1⟩
theorem takeH_ok {H G : Hp} {z : Nat} {o fl p : Int} (hZ : ZsOk H) (hz : z < 2) (ho : ordOk o) (h : takeGH H z o fl = some (G, p)) :
    ZsOk G ∧ G.mins = H.mins ∧ G.lists = H.lists ∧ G.live = H.live ∧ G.cpus = H.cpus ∧ 0 ≤ p := by
 obtain ⟨_, i, hC, rfl, rfl⟩ := takeH_some h
 refine ⟨hZ.take hz ho (typeF_ok fl) hC, rfl, rfl, rfl, rfl, ?_⟩
 have hm : ZMay (H.zones.getD z ⟨0, 0, [], []⟩) := by rcases (show z = 0 ∨ z = 1 by omega) with rfl | rfl; (exact hZ.m0); exact hZ.m1
 obtain ⟨j, e, hj, _⟩ := choose_in (l := (H.zones.getD z ⟨0, 0, [], []⟩).free) (o := o) (t := typeF fl) (by omega)
 obtain rfl : j = i := by omega
 have hfi := ((free_iff.1 hm.free).1 _ (getD_mem (d := Bk.zero) hj)).1.2.1
 have hn := hm.new
 unfold newOk at hn
 omega
theorem moreH_some {n : Nat} {H G : Hp} {z : Nat} {fl p : Int} {l : List Int} (h : takeGH H z 0 fl = some (G, p)) : moreH (n + 1) H z fl l = moreH n G z fl (l ++ [p]) := by
 show (match takeGH H z 0 fl with | none => (H, l) | some (G, p) => moreH n G z fl (l ++ [p])) = _
 rw [h]
theorem moreH_none {n : Nat} {H : Hp} {z : Nat} {fl : Int} {l : List Int} (h : takeGH H z 0 fl = none) : moreH (n + 1) H z fl l = (H, l) := by
 show (match takeGH H z 0 fl with | none => (H, l) | some (G, p) => moreH n G z fl (l ++ [p])) = _
 rw [h]
structure AwayP (b : Nat) (y : Hx) : Prop where
 f : ∀ z ∈ y.zs, 0 < z.z.free.length → ∀ a, z.fo = some a → a.block ≠ b
 t : ∀ z ∈ y.zs, 0 < z.z.types.length → ∀ a, z.to_ = some a → a.block ≠ b
 m : 0 < y.mins.length → ∀ a, y.mo = some a → a.block ≠ b
 l : 0 < y.ls.length → ∀ a, y.lo = some a → a.block ≠ b
 p : ∀ l ∈ y.ls, 0 < l.l.pages.length → ∀ a, l.po = some a → a.block ≠ b
theorem awayP_F {b : Nat} {y : Hx} {zs : List Zc} (h : AwayP b y) (f : AwayF b (y.withZ zs)) : AwayP b (y.withZ zs) := ⟨f.f, f.t, h.m, h.l, h.p⟩
theorem awayP_withL {b : Nat} {y : Hx} {ls : List Lc} {lo : Option Addr} {ln lc : Nat} (h : AwayP b y) (hl : 0 < ls.length → ∀ a, lo = some a → a.block ≠ b) (hm : ∀ l ∈ ls, l ∈ y.ls ∨ ∀ a, l.po = some a → a.block ≠ b) : AwayP b (y.withL ls lo ln lc) :=
 ⟨h.f, h.t, h.m, hl, fun l hl' h0 => (hm l hl').elim (fun g => h.p l g h0) (fun g => g)⟩
def Got (w w' : World) (gz gl hbk : Nat) (y : Hx) (r : Option (Hp × Int)) : Prop :=
 (r = none ∧ Below w.heap.size w w') ∨ (r ≠ none ∧ ∃ zs ls lo ln lc, w'.heap[hbk]? = some (.cells #[.slice y.zo y.zn y.zc, .slice y.mo y.mn y.mc, .int .i64 y.cpus, .slice lo ln lc, .slice y.vo y.vn y.vc] 34 (0, 0)) ∧ ((y.withZ zs).withL ls lo ln lc).At w' ∧ ((y.withZ zs).withL ls lo ln lc).hp = hpO y.hp r ∧ Ex (fun k => k = gz ∨ k = gl ∨ k = hbk) w w' ∧ (∀ b, b < w.heap.size → b ≠ gl → AwayP b y → AwayP b ((y.withZ zs).withL ls lo ln lc)))
end Go.Proofs.YtjohdbiipeedkaaGreatDoor
namespace Go.Proofs.YtjohdbiipeedkaaGreatDoor.Kit
def giveK : Nat → Zn → Int → Option Zn
 | 0, z, _ => some z
 | n + 1, z, p => if z.free.any (ovl1 (p + pw 0) p) = true then none else giveK n (backZ z p 0) (p + 1)
def giveOk (z : Zn) (a s : Int) : Prop := z.f ≤ a ∧ a ≤ z.t ∧ 0 ≤ s ∧ s ≤ z.t - a
theorem page_in {z : Zn} {p : Int} (h1 : z.f ≤ p) (h2 : p < z.t) : blkIn z.f z.t p 0 := ⟨⟨by omega, by omega⟩, h1, by omega, by rw [pw_0]; omega⟩
theorem give_none {n : Nat} {z : Zn} {p : Int} (h : ovlP z.free p 0) : giveK (n + 1) z p = none := by
 unfold giveK
 rw [if_pos ((ovl_any z.free p 0).2 h)]
theorem give_some {n : Nat} {z : Zn} {p : Int} (h : ¬ ovlP z.free p 0) : giveK (n + 1) z p = giveK n (backZ z p 0) (p + 1) := by
 show (if _ then _ else _) = _
 rw [if_neg (fun g => h ((ovl_any z.free p 0).1 g))]
def hit (a o p : Int) : Nat := if a ≤ p ∧ p < a + pw o then 1 else 0
def cnt : List Bk → Int → Nat
 | [], _ => 0
 | b :: l, p => hit b.a b.o p + cnt l p
theorem cnt_append (l m : List Bk) (p : Int) : cnt (l ++ m) p = cnt l p + cnt m p := by
 induction l with
 | nil => simp [cnt]
 | cons b l ih => simp only [List.cons_append, cnt, ih]; omega
theorem cnt_one (b : Bk) (p : Int) : cnt [b] p = hit b.a b.o p := by simp [cnt]
theorem rise_ne {b : Bk} {l : List Bk} (h : (b :: l).Pairwise Ahead) : ∀ x ∈ l, x.a ≠ b.a := fun x hx => by
 have := ((List.pairwise_cons.1 h).1 x hx).1
 have := pw_pos b.o
 omega
theorem drop_same {l : List Bk} {a o : Int} (h : ∀ x ∈ l, x.a ≠ a) : dropB l a o = l := by
 unfold dropB
 rw [List.filter_eq_self]
 intro b hb
 have : isB a o b = false := decide_eq_false (fun g => h b hb g.1)
 rw [this]; rfl
theorem cnt_drop {l : List Bk} (hl : l.Pairwise Ahead) {a o : Int} (h : hasB l a o = true) (p : Int) : cnt l p = cnt (dropB l a o) p + hit a o p := by
 induction l with
 | nil => simp [hasB] at h
 | cons b l ih =>
  by_cases hb : isB a o b = true
  ·obtain ⟨e1, e2⟩ := of_decide_eq_true hb
   have e : dropB (b :: l) a o = dropB l a o := by unfold dropB; rw [List.filter_cons]; simp [hb]
   rw [e, drop_same (fun x hx => by rw [← e1]; exact rise_ne hl x hx)]
   simp only [cnt, e1, e2]
   omega
  have hb' : isB a o b = false := by simpa using hb
  have e : dropB (b :: l) a o = b :: dropB l a o := by unfold dropB; rw [List.filter_cons]; simp [hb']
  have h' : hasB l a o = true := by simpa [hasB, hb'] using h
  rw [e]
  simp only [cnt, ih (List.pairwise_cons.1 hl).2 h']
  omega
theorem cnt_add (l : List Bk) (b : Bk) (p : Int) : cnt (addB l b) p = cnt l p + hit b.a b.o p := by
 induction l with
 | nil => simp [addB, cnt]
 | cons x l ih =>
  unfold addB
  split
  ·simp only [cnt]; omega
  simp only [cnt, ih]; omega
theorem hit_join {a o : Int} (h0 : 0 ≤ o) (h4 : o < 4) (hm : a % pw o = 0) (p : Int) : (if besideA a o < a then besideA a o else a) % pw (o + 1) = 0 ∧ hit (if besideA a o < a then besideA a o else a) (o + 1) p = hit a o p + hit (besideA a o) o p := by
 obtain ⟨e, h | h⟩ := beside_cases h0 h4 hm
 ·have hp := pw_pos o
  rw [h.2, if_neg (by omega)]
  refine ⟨h.1, ?_⟩
  unfold hit
  rw [e]
  repeat' split
  all_goals omega
 have hp := pw_pos o
 rw [h.2.1, if_pos (by omega)]
 refine ⟨?_, ?_⟩
 ·have h3 := h.2.2
  rw [e] at h3 ⊢
  have := Int.emod_add_mul_ediv a (2 * pw o)
  rw [h3] at this
  have e2 : a - pw o = 2 * pw o * (a / (2 * pw o)) := by omega
  rw [e2]
  exact Int.mul_emod_right _ _
 unfold hit
 rw [e]
 repeat' split
 all_goals omega
theorem drop_ahead {l : List Bk} (h : l.Pairwise Ahead) (a o : Int) : (dropB l a o).Pairwise Ahead := List.Pairwise.filter _ h
theorem cnt_go : ∀ (n : Nat) (l : List Bk) (a o : Int), (4 - o).toNat = n → 0 ≤ o → a % pw o = 0 → l.Pairwise Ahead → ∀ p, cnt (backGo n l a o).1 p + hit (backGo n l a o).2.1 (backGo n l a o).2.2 p = cnt l p + hit a o p := by
 intro n
 induction n with
 | zero => intro l a o _ _ _ _ p; rfl
 | succ n ih =>
  intro l a o hn h0 hm hl p
  unfold backGo
  split
  ·rename_i hb
   obtain ⟨j1, j2⟩ := hit_join h0 (by omega) hm p
   rw [ih _ _ _ (by omega) (by omega) j1 (drop_ahead hl _ _) p, j2, cnt_drop hl hb p]
   omega
  rfl
theorem cnt_back {z : Zn} {a o : Int} (h : z.free.Pairwise Ahead) (h0 : 0 ≤ o) (hm : a % pw o = 0) (p : Int) : cnt (backZ z a o).free p = cnt z.free p + hit a o p := by
 show cnt (addB _ _) p = _
 rw [cnt_add]
 exact cnt_go (4 - o).toNat z.free a o rfl h0 hm h p
theorem cnt_halves (a t o : Int) (h0 : 0 ≤ o) (m : Nat) (p : Int) : cnt (halvesL a t o m) p + hit a o p = hit a (o + m) p := by
 induction m with
 | zero => simp [halvesL, cnt]
 | succ m ih =>
  have e : pw (o + ((m + 1 : Nat) : Int)) = 2 * pw (o + m) := by
   rw [show o + ((m + 1 : Nat) : Int) = o + m + 1 by omega]
   exact pw_succ _ (by omega)
  have hp := pw_pos (o + m)
  simp only [halvesL, cnt_append, cnt_one]
  have k : hit a (o + ((m + 1 : Nat) : Int)) p = hit a (o + m) p + hit (a + pw (o + m)) (o + m) p := by
   unfold hit
   rw [e]
   repeat' split
   all_goals omega
  omega
theorem cnt_steal (f F L t : Int) (l : List Bk) (p : Int) : cnt (l.map (stealB f F L t)) p = cnt l p := by
 induction l with
 | nil => rfl
 | cons b l ih => simp only [List.map_cons, cnt, ih, stealB_a, stealB_o]
theorem cnt_put {l h : List Bk} {i : Nat} (hi : i < l.length) {o : Int} (p : Int) (hh : cnt h p + hit (l.getD i .zero).a o p = hit (l.getD i .zero).a (l.getD i .zero).o p) :
    cnt (l.take i ++ (h ++ l.drop (i + 1))) p + hit (l.getD i .zero).a o p = cnt l p := by
 have e : cnt l p = cnt (l.take i) p + (hit (l.getD i .zero).a (l.getD i .zero).o p + cnt (l.drop (i + 1)) p) := by
  conv => lhs; rw [cut_at l hi]
  rw [cnt_append]
  rfl
 rw [e, cnt_append, cnt_append]
 omega
theorem cnt_take {z : Zn} {o t : Int} {i : Nat} (hi : i < z.free.length) (h0 : 0 ≤ o) (ho : o ≤ (z.free.getD i .zero).o) (p : Int) : cnt (takeZ z o t i).free p + hit (z.free.getD i .zero).a o p = cnt z.free p := by
 have e : o + (((z.free.getD i .zero).o - o).toNat : Int) = (z.free.getD i .zero).o := by omega
 have hh : ∀ u, cnt (halvesL (z.free.getD i .zero).a u o ((z.free.getD i .zero).o - o).toNat) p + hit (z.free.getD i .zero).a o p = hit (z.free.getD i .zero).a (z.free.getD i .zero).o p := fun u => by
  rw [cnt_halves _ _ _ h0, e]
 unfold takeZ
 dsimp only
 split
 ·have k := cnt_put (l := z.free.map (stealB z.f (grpF z (z.free.getD i .zero)) (grpL z (z.free.getD i .zero)) t)) (h := halvesL (z.free.getD i .zero).a t o ((z.free.getD i .zero).o - o).toNat) (i := i) (by simpa using hi) (o := o) p (by rw [map_getD _ hi, stolen_self]; exact hh t)
  rw [map_getD _ hi, stolen_self, cnt_steal] at k
  exact k
 exact cnt_put hi p (hh _)
theorem cnt_ge {l : List Bk} {i : Nat} (hi : i < l.length) (p : Int) : hit (l.getD i .zero).a (l.getD i .zero).o p ≤ cnt l p := by
 rw [cut_at l hi, cnt_append]
 simp only [cnt]
 have e : (l.take i ++ l.getD i .zero :: l.drop (i + 1)).getD i .zero = l.getD i .zero := by rw [← cut_at l hi]
 rw [e]
 omega
theorem no_ovl {l : List Bk} {a o : Int} (h : ∀ p, cnt l p + hit a o p ≤ 1) : ¬ ovlP l a o := by
 rintro ⟨i, hi, h1, h2⟩
 have hp := pw_pos o
 have hq := pw_pos (l.getD i .zero).o
 by_cases c : a ≤ (l.getD i .zero).a
 ·have k := h (l.getD i .zero).a
  have g := cnt_ge hi (l.getD i .zero).a
  have e1 : hit (l.getD i .zero).a (l.getD i .zero).o (l.getD i .zero).a = 1 := if_pos ⟨by omega, by omega⟩
  have e2 : hit a o (l.getD i .zero).a = 1 := if_pos ⟨c, h1⟩
  omega
 have k := h a
 have g := cnt_ge hi a
 have e1 : hit (l.getD i .zero).a (l.getD i .zero).o a = 1 := if_pos ⟨by omega, h2⟩
 have e2 : hit a o a = 1 := if_pos ⟨by omega, by omega⟩
 omega
structure ZI (z : Zn) (aw : List Bk) : Prop where
 may : ZMay z
 f : z.f = 16
 t : z.t = 112
 all : ∀ b ∈ aw, blkIn 16 112 b.a b.o
 cnt : ∀ p, cnt z.free p + cnt aw p = if 18 ≤ p ∧ p < 108 then 1 else 0
theorem ZI.sum {z : Zn} {aw : List Bk} (h : ZI z aw) (p : Int) : Kit.cnt z.free p + Kit.cnt aw p ≤ 1 := by
 rw [h.cnt p]
 split <;> omega
theorem getB_mem {l : List Bk} {k : Nat} (h : k < l.length) : l.getD k .zero ∈ l := by
 rw [List.getD_eq_getElem?_getD, List.getElem?_eq_getElem h]
 exact List.getElem_mem _
theorem cnt_erase {l : List Bk} {k : Nat} (h : k < l.length) (p : Int) : cnt (l.eraseIdx k) p + hit (l.getD k .zero).a (l.getD k .zero).o p = cnt l p := by
 have e : cnt l p = cnt (l.take k) p + (hit (l.getD k .zero).a (l.getD k .zero).o p + cnt (l.drop (k + 1)) p) := by
  conv => lhs; rw [cut_at l h]
  rw [cnt_append]
  rfl
 rw [e, List.eraseIdx_eq_take_drop_succ, cnt_append]
 omega
theorem mod_down {a o b : Int} (hb : ordOk b) (h0 : 0 ≤ o) (h1 : o ≤ b) (h : a % pw b = 0) : a % pw o = 0 := by
 rcases ord_cases hb with ⟨rfl, e⟩ | ⟨rfl, e⟩ | ⟨rfl, e⟩ | ⟨rfl, e⟩ | ⟨rfl, e⟩ <;> rw [e] at h <;>
  rcases ord_cases (o := o) ⟨h0, by omega⟩ with ⟨rfl, e'⟩ | ⟨rfl, e'⟩ | ⟨rfl, e'⟩ | ⟨rfl, e'⟩ | ⟨rfl, e'⟩ <;> rw [e'] <;> omega
def firstZ : Option Zn := giveK 90 (newZ 16 112) 18
theorem newZ_may {f t : Int} (h : newOk f t) : ZMay (newZ f t) := by
 obtain ⟨h1, h2, h3, h4, h5⟩ := h
 refine ⟨⟨h1, h2, h3, h4, h5⟩, ?_, ?_, trivial⟩
 ·show 8 * ((newTypes f t).length : Int) = t - f
  unfold newTypes
  rw [List.length_replicate]
  omega
 intro i hi
 have hi' : i < (newTypes f t).length := hi
 show typeOk ((newTypes f t).getD i 0)
 unfold newTypes at hi' ⊢
 rw [List.length_replicate] at hi'
 rw [List.getD_eq_getElem?_getD, List.getElem?_replicate, if_pos hi']
 exact ⟨by decide, by decide⟩
theorem hit_one {a o p : Int} : 0 < hit a o p ↔ a ≤ p ∧ p < a + pw o := by
 unfold hit
 split <;> simp_all
theorem cnt_pos {l : List Bk} {p : Int} : 0 < cnt l p ↔ ∃ b ∈ l, b.a ≤ p ∧ p < b.a + pw b.o := by
 induction l with
 | nil => simp [cnt]
 | cons x l ih =>
  constructor
  ·intro h
   simp only [cnt] at h
   by_cases hx : 0 < hit x.a x.o p
   ·exact ⟨x, by simp, hit_one.1 hx⟩
   obtain ⟨b, hb, g⟩ := ih.1 (by omega)
   exact ⟨b, by simp [hb], g⟩
  rintro ⟨b, hb, g⟩
  simp only [cnt]
  rcases List.mem_cons.1 hb with rfl | hb
  ·have := hit_one.2 g; omega
  have := ih.2 ⟨b, hb, g⟩; omega
theorem ahead_two {l : List Bk} (h : l.Pairwise Ahead) {p q : Bk} (hp : p ∈ l) (hq : q ∈ l) (hlt : p.a < q.a) : Ahead p q := by
 induction l with
 | nil => simp at hp
 | cons x l ih =>
  obtain ⟨h1, h2⟩ := List.pairwise_cons.1 h
  rcases List.mem_cons.1 hp with rfl | hp'
  ·rcases List.mem_cons.1 hq with rfl | hq'
   ·omega
   exact h1 q hq'
  rcases List.mem_cons.1 hq with rfl | hq'
  ·have := (h1 p hp').1
   have := pw_pos q.o
   omega
  exact ih h2 hp' hq'
theorem up_in {a b k o : Int} (hk : ordOk k) (ho : ordOk o) (hko : k ≤ o) (ha : a % pw k = 0) (hb : b % pw o = 0) (h1 : b ≤ a) (h2 : a < b + pw o) : a + pw k ≤ b + pw o := by
 rcases ord_cases ho with ⟨rfl, e⟩ | ⟨rfl, e⟩ | ⟨rfl, e⟩ | ⟨rfl, e⟩ | ⟨rfl, e⟩ <;> rw [e] at hb h2 ⊢ <;>
  rcases ord_cases hk with ⟨rfl, f⟩ | ⟨rfl, f⟩ | ⟨rfl, f⟩ | ⟨rfl, f⟩ | ⟨rfl, f⟩ <;> rw [f] at ha ⊢ <;> omega
theorem whole_in {f t : Int} {l : List Bk} (hl : AllIn f t l) (hA : l.Pairwise Ahead) : ∀ (k : Nat) (c : Int), k ≤ 4 → c % pw k = 0 → (∀ p, c ≤ p → p < c + pw k → 0 < cnt l p) → ∃ b ∈ l, b.a ≤ c ∧ c + pw k ≤ b.a + pw b.o := by
 intro k
 induction k with
 | zero =>
  intro c _ _ h
  have e : pw ((0 : Nat) : Int) = 1 := pw_0
  rw [e] at h ⊢
  obtain ⟨b, hb, g1, g2⟩ := cnt_pos.1 (h c (by omega) (by omega))
  exact ⟨b, hb, g1, by omega⟩
 | succ k ih =>
  intro c hk hc h
  have e : pw ((k + 1 : Nat) : Int) = 2 * pw (k : Int) := by
   rw [show ((k + 1 : Nat) : Int) = (k : Int) + 1 by omega]
   exact pw_succ _ (by omega)
  have hp := pw_pos (k : Int)
  have ok : ordOk (k : Int) := ⟨by omega, by omega⟩
  have ok1 : ordOk ((k + 1 : Nat) : Int) := ⟨by omega, by omega⟩
  have c1 : c % pw (k : Int) = 0 := mod_down ok1 (by omega) (by omega) hc
  have c2 : (c + pw (k : Int)) % pw (k : Int) = 0 := by rw [Int.add_emod_right]; exact c1
  rw [e] at h
  obtain ⟨b1, m1, g1, g2⟩ := ih c (by omega) c1 (fun p q1 q2 => h p q1 (by omega))
  obtain ⟨b2, m2, g3, g4⟩ := ih (c + pw (k : Int)) (by omega) c2 (fun p q1 q2 => h p (by omega) (by omega))
  obtain ⟨⟨o1, _, _, al1⟩, _⟩ := hl b1 m1
  obtain ⟨⟨o2, _, _, al2⟩, _⟩ := hl b2 m2
  by_cases s1 : ((k + 1 : Nat) : Int) ≤ b1.o
  ·exact ⟨b1, m1, g1, up_in ok1 o1 s1 hc al1 g1 (by omega)⟩
  by_cases s2 : ((k + 1 : Nat) : Int) ≤ b2.o
  ·refine ⟨b2, m2, ?_, ?_⟩
   ·have := pw_pos b2.o
    have hd : c % pw ((k + 1 : Nat) : Int) = 0 := hc
    rcases ord_cases o2 with ⟨q, e2⟩ | ⟨q, e2⟩ | ⟨q, e2⟩ | ⟨q, e2⟩ | ⟨q, e2⟩ <;> rw [e2] at al2 g4 <;>
     rcases ord_cases ok1 with ⟨r, e3⟩ | ⟨r, e3⟩ | ⟨r, e3⟩ | ⟨r, e3⟩ | ⟨r, e3⟩ <;> rw [e3] at hd e <;> omega
   omega
  exfalso
  have e1 : pw b1.o ≤ pw (k : Int) := pw_mono (by omega)
  have e2 : pw b2.o ≤ pw (k : Int) := pw_mono (by omega)
  have q1 : b1.a = c := by omega
  have q2 : b2.a = c + pw (k : Int) := by omega
  have z1 : b1.o = k := by
   rcases ord_cases o1 with ⟨q, w1⟩ | ⟨q, w1⟩ | ⟨q, w1⟩ | ⟨q, w1⟩ | ⟨q, w1⟩ <;> rcases ord_cases ok with ⟨r, w2⟩ | ⟨r, w2⟩ | ⟨r, w2⟩ | ⟨r, w2⟩ | ⟨r, w2⟩ <;> rw [w1, w2] at e1 <;> rw [w1, w2] at g2 <;> omega
  have z2 : b2.o = k := by
   rcases ord_cases o2 with ⟨q, w1⟩ | ⟨q, w1⟩ | ⟨q, w1⟩ | ⟨q, w1⟩ | ⟨q, w1⟩ <;> rcases ord_cases ok with ⟨r, w2⟩ | ⟨r, w2⟩ | ⟨r, w2⟩ | ⟨r, w2⟩ | ⟨r, w2⟩ <;> rw [w1, w2] at e2 <;> rw [w1, w2] at g4 <;> omega
  have hah := ahead_two hA m1 m2 (by omega)
  refine hah.2 ⟨by omega, by omega, ?_, ?_⟩
  ·rw [z2, q1, q2]
  rw [z2, q1, show (k : Int) + 1 = ((k + 1 : Nat) : Int) by omega]; exact hc
theorem same_of {l : List Bk} (hA : l.Pairwise Ahead) {p q : Bk} (hp : p ∈ l) (hq : q ∈ l) (h1 : q.a ≤ p.a) (h2 : p.a < q.a + pw q.o) : p = q := by
 by_cases e : p.a = q.a
 ·induction l with
  | nil => simp at hp
  | cons x l ih =>
   obtain ⟨k1, k2⟩ := List.pairwise_cons.1 hA
   have px := pw_pos x.o
   rcases List.mem_cons.1 hp with rfl | hp'
   ·rcases List.mem_cons.1 hq with rfl | hq'
    ·rfl
    have := (k1 q hq').1; omega
   rcases List.mem_cons.1 hq with rfl | hq'
   ·have := (k1 p hp').1; omega
   exact ih k2 hp' hq'
 have := (ahead_two hA hq hp (by omega)).1
 omega
theorem in_other {f t : Int} {l m : List Bk} (hl : AllIn f t l) (hlA : l.Pairwise Ahead) (hm : AllIn f t m) (hmA : m.Pairwise Ahead) (hc : ∀ p, cnt l p = cnt m p) {b : Bk} (hb : b ∈ l) : ∃ b' ∈ m, b'.a = b.a ∧ b'.o = b.o := by
 obtain ⟨⟨⟨o0, o4⟩, _, _, al⟩, _⟩ := hl b hb
 have e : ((b.o.toNat : Nat) : Int) = b.o := by omega
 obtain ⟨b', hb', g1, g2⟩ := whole_in hm hmA b.o.toNat b.a (by omega) (by rw [e]; exact al) (fun p q1 q2 => by
  rw [e] at q2
  rw [← hc]
  exact cnt_pos.2 ⟨b, hb, q1, q2⟩)
 rw [e] at g2
 obtain ⟨⟨⟨o0', o4'⟩, _, _, al'⟩, _⟩ := hm b' hb'
 have e' : ((b'.o.toNat : Nat) : Int) = b'.o := by omega
 obtain ⟨b2, hb2, g3, g4⟩ := whole_in hl hlA b'.o.toNat b'.a (by omega) (by rw [e']; exact al') (fun p q1 q2 => by
  rw [e'] at q2
  rw [hc]
  exact cnt_pos.2 ⟨b', hb', q1, q2⟩)
 rw [e'] at g4
 have hp := pw_pos b.o
 have hp' := pw_pos b'.o
 have hs : b = b2 := same_of hlA hb hb2 (by omega) (by omega)
 subst hs
 have ea : b'.a = b.a := by omega
 refine ⟨b', hb', ea, ?_⟩
 have ep : pw b'.o = pw b.o := by omega
 rcases ord_cases (o := b.o) ⟨o0, o4⟩ with ⟨q, w1⟩ | ⟨q, w1⟩ | ⟨q, w1⟩ | ⟨q, w1⟩ | ⟨q, w1⟩ <;> rcases ord_cases (o := b'.o) ⟨o0', o4'⟩ with ⟨r, w2⟩ | ⟨r, w2⟩ | ⟨r, w2⟩ | ⟨r, w2⟩ | ⟨r, w2⟩ <;> rw [w1, w2] at ep <;> omega
theorem rise_eq : ∀ (l m : List (Int × Int)), l.Pairwise (fun x y => x.1 < y.1) → m.Pairwise (fun x y => x.1 < y.1) → (∀ x, x ∈ l ↔ x ∈ m) → l = m := by
 intro l
 induction l with
 | nil =>
  intro m _ _ h
  cases m with
  | nil => rfl
  | cons y m => exact absurd ((h y).2 (by simp)) (by simp)
 | cons x l ih =>
  intro m hl hm h
  cases m with
  | nil => exact absurd ((h x).1 (by simp)) (by simp)
  | cons y m =>
   obtain ⟨a1, a2⟩ := List.pairwise_cons.1 hl
   obtain ⟨b1, b2⟩ := List.pairwise_cons.1 hm
   have hxy : x = y := by
    rcases List.mem_cons.1 ((h x).1 (by simp)) with e | e
    ·exact e
    rcases List.mem_cons.1 ((h y).2 (by simp)) with e' | e'
    ·exact e'.symm
    have := b1 x e; have := a1 y e'; omega
   subst hxy
   rw [ih m a2 b2 fun z => ?_]
   constructor
   ·intro hz
    rcases List.mem_cons.1 ((h z).1 (by simp [hz])) with e | e
    ·have := a1 z hz; rw [e] at this; omega
    exact e
   intro hz
   rcases List.mem_cons.1 ((h z).2 (by simp [hz])) with e | e
   ·have := b1 z hz; rw [e] at this; omega
   exact e
def ao (l : List Bk) : List (Int × Int) := l.map fun b => (b.a, b.o)
theorem free_unique {z y : Zn} (hz : ZMay z) (hy : ZMay y) (hf : z.f = y.f) (ht : z.t = y.t) (hc : ∀ p, cnt z.free p = cnt y.free p) : ao z.free = ao y.free := by
 obtain ⟨z1, z2⟩ := free_iff.1 hz.free
 obtain ⟨y1, y2⟩ := free_iff.1 hy.free
 rw [hf, ht] at z1
 have inc : ∀ l : List Bk, l.Pairwise Ahead → (ao l).Pairwise (fun x y => x.1 < y.1) := fun l h => by
  unfold ao
  rw [List.pairwise_map]
  exact h.imp fun {a b} hab => by have := hab.1; have := pw_pos a.o; show a.a < b.a; omega
 refine rise_eq _ _ (inc _ z2) (inc _ y2) fun x => ?_
 unfold ao
 rw [List.mem_map, List.mem_map]
 constructor
 ·rintro ⟨b, hb, rfl⟩
  obtain ⟨b', hb', e1, e2⟩ := in_other z1 z2 y1 y2 hc hb
  exact ⟨b', hb', by rw [e1, e2]⟩
 rintro ⟨b, hb, rfl⟩
 obtain ⟨b', hb', e1, e2⟩ := in_other y1 y2 z1 z2 (fun p => (hc p).symm) hb
 exact ⟨b', hb', by rw [e1, e2]⟩
end Go.Proofs.YtjohdbiipeedkaaGreatDoor.Kit
namespace Go.Proofs.YtjohdbiipeedkaaGreatDoor
open Go.Proofs.YtjohdbiipeedkaaGreatDoor.Kit
theorem apt_cnt : ∀ (l P : List Bk), Apt P l → (∀ p, cnt P p ≤ 1) → ∀ p, cnt (P ++ l) p ≤ 1
 | [], P, _, hP, p => by simpa using hP p
 | b :: l, P, h, hP, p => by
  rw [show b :: l = [b] ++ l from rfl, apt_append, apt_one] at h
  have h1 : ∀ p, cnt (P ++ [b]) p ≤ 1 := fun p => by
   rw [cnt_append, cnt_one]
   have hp := hP p
   by_cases c : hit b.a b.o p = 0
   ·omega
   have hh := hit_one.1 (Nat.pos_of_ne_zero c)
   have h0 : cnt P p = 0 := by
    by_cases g : cnt P p = 0
    ·exact g
    obtain ⟨x, hx, h1, h2⟩ := cnt_pos.1 (Nat.pos_of_ne_zero g)
    exact absurd ((ovlP_mem P b.a b.o).2 ⟨x, hx, by omega, by omega⟩) h.1
   have h1 : hit b.a b.o p ≤ 1 := by unfold hit; split <;> omega
   omega
  have := apt_cnt l (P ++ [b]) h.2 h1 p
  rwa [List.append_assoc] at this
theorem cnt_apt {P l : List Bk} (h : ∀ p, cnt (P ++ l) p ≤ 1) : Apt P l := by
 intro k hk
 refine no_ovl fun p => ?_
 have e : cnt (P ++ l) p = cnt (P ++ l.take k) p + (hit (l.getD k .zero).a (l.getD k .zero).o p + cnt (l.drop (k + 1)) p) := by
  conv => lhs; rw [cut_at l hk]
  rw [← List.append_assoc, cnt_append]
  rfl
 have := h p
 omega
theorem zs_two {H : Hp} (h : H.zones.length = 2) : H.zones = [H.zones.getD 0 ⟨0, 0, [], []⟩, H.zones.getD 1 ⟨0, 0, [], []⟩] := by
 obtain ⟨zs, _, _, _, _⟩ := H
 dsimp only at h ⊢
 match zs, h with
 | [a, b], _ => rfl
def zcnt (H : Hp) (p : Int) : Nat := cnt (H.zones.flatMap (·.free)) p
theorem zcnt_two {H : Hp} (h : H.zones.length = 2) (p : Int) : zcnt H p = cnt (H.zones.getD 0 ⟨0, 0, [], []⟩).free p + cnt (H.zones.getD 1 ⟨0, 0, [], []⟩).free p := by
 unfold zcnt
 rw [zs_two h]
 simp [cnt_append]
theorem backH_ok {H : Hp} (hz : ZsOk H) {a o : Int} (ho : ordOk o) (hm : a % pw o = 0) (h0 : 0 ≤ a) (h1 : a < 256) (hc : ∀ p, zcnt H p + hit a o p ≤ 1) :
    CanBack H a o ∧ ZsOk (backH H a o) ∧ ∀ p, zcnt (backH H a o) p = zcnt H p + hit a o p := by
 have hc' : ∀ p, cnt (H.zones.getD 0 ⟨0, 0, [], []⟩).free p + cnt (H.zones.getD 1 ⟨0, 0, [], []⟩).free p + hit a o p ≤ 1 := fun p => by
  have := hc p
  rwa [zcnt_two hz.n] at this
 have e := zs_two hz.n
 obtain ⟨zs, mins, cpus, ls, live⟩ := H
 dsimp only at e hc'
 obtain ⟨z0, hz0⟩ : ∃ z, zs.getD 0 ⟨0, 0, [], []⟩ = z := ⟨_, rfl⟩
 obtain ⟨z1, hz1⟩ : ∃ z, zs.getD 1 ⟨0, 0, [], []⟩ = z := ⟨_, rfl⟩
 rw [hz0, hz1] at e hc'
 subst e
 clear hz0 hz1 hc
 have m0 : ZMay z0 := hz.m0
 have m1 : ZMay z1 := hz.m1
 have f0 : z0.f = 0 := hz.f0
 have f1 : z1.f = z0.t := hz.f1
 have t1 : z1.t = 256 := hz.t1
 by_cases ha : a < z0.t
 ·have ei : zIdx ⟨[z0, z1], mins, cpus, ls, live⟩ a = 0 := if_pos ha
  have hno : ¬ ovlP z0.free a o := no_ovl fun p => by have := hc' p; omega
  have hin : blkIn z0.f z0.t a o := ⟨ho, by omega, by omega, hm⟩
  have eb : backH ⟨[z0, z1], mins, cpus, ls, live⟩ a o = ⟨[backZ z0 a o, z1], mins, cpus, ls, live⟩ := by unfold backH; rw [ei]; rfl
  have hcb := cnt_back (free_iff.1 m0.free).2 ho.1 hm
  refine ⟨⟨rfl, by rw [ei]; exact m0, by rw [ei]; exact hin, by rw [ei]; exact hno⟩, ?_⟩
  rw [eb]
  refine ⟨⟨rfl, backZ_may m0 hin hno, m1, f0, f1, t1⟩, fun p => ?_⟩
  rw [zcnt_two rfl, zcnt_two rfl]
  have := hcb p
  show cnt (backZ z0 a o).free p + cnt z1.free p = cnt z0.free p + cnt z1.free p + hit a o p
  omega
 have ei : zIdx ⟨[z0, z1], mins, cpus, ls, live⟩ a = 1 := if_neg ha
 have hno : ¬ ovlP z1.free a o := no_ovl fun p => by have := hc' p; omega
 have hin : blkIn z1.f z1.t a o := ⟨ho, by omega, by omega, hm⟩
 have eb : backH ⟨[z0, z1], mins, cpus, ls, live⟩ a o = ⟨[z0, backZ z1 a o], mins, cpus, ls, live⟩ := by unfold backH; rw [ei]; rfl
 have hcb := cnt_back (free_iff.1 m1.free).2 ho.1 hm
 refine ⟨⟨rfl, by rw [ei]; exact m1, by rw [ei]; exact hin, by rw [ei]; exact hno⟩, ?_⟩
 rw [eb]
 refine ⟨⟨rfl, m0, backZ_may m1 hin hno, f0, f1, t1⟩, fun p => ?_⟩
 rw [zcnt_two rfl, zcnt_two rfl]
 have := hcb p
 show cnt z0.free p + cnt (backZ z1 a o).free p = cnt z0.free p + cnt z1.free p + hit a o p
 omega
theorem backs_ok : ∀ (l : List Int) (H : Hp), ZsOk H → (∀ p ∈ l, 0 ≤ p ∧ p < 256) → (∀ p, zcnt H p + cnt (l.map pgB) p ≤ 1) →
    CanBacks H l ∧ ZsOk (backs H l) ∧ ∀ p, zcnt (backs H l) p = zcnt H p + cnt (l.map pgB) p
 | [], H, hz, _, _ => ⟨trivial, hz, fun p => by simp [backs, cnt]⟩
 | a :: l, H, hz, hr, hc => by
  have hc' : ∀ p, zcnt H p + (hit a 0 p + cnt (l.map pgB) p) ≤ 1 := hc
  have ha := hr a (by simp)
  obtain ⟨h1, h2, h3⟩ := backH_ok hz (a := a) (o := 0) ⟨by omega, by omega⟩ (by rw [pw_0]; omega) ha.1 ha.2 (fun p => by have := hc' p; omega)
  obtain ⟨k1, k2, k3⟩ := backs_ok l (backH H a 0) h2 (fun p hp => hr p (by simp [hp])) (fun p => by rw [h3]; have := hc' p; omega)
  refine ⟨⟨h1, k1⟩, k2, fun p => ?_⟩
  show zcnt (backs (backH H a 0) l) p = zcnt H p + (hit a 0 p + cnt (l.map pgB) p)
  rw [k3, h3]
  omega
theorem Kit.HMay.cntLe {H : Hp} (h : HMay H) (p : Int) : zcnt H p + (Kit.cnt ((H.lists.flatMap (·.pages)).map pgB) p + Kit.cnt H.live p) ≤ 1 := by
 have := apt_cnt _ _ h.apart (fun p => by simp [Kit.cnt]) p
 unfold placed at this
 rw [List.nil_append, cnt_append, cnt_append] at this
 rw [List.map_flatMap]
 exact this
theorem Kit.HMay.pageR {H : Hp} (h : HMay H) {p : Int} (hp : p ∈ H.lists.flatMap (·.pages)) : 0 ≤ p ∧ p < 256 := by
 obtain ⟨L, hL, hp⟩ := List.mem_flatMap.1 hp
 obtain ⟨i, hi, rfl⟩ := List.getElem_of_mem hL
 obtain ⟨j, hj, rfl⟩ := List.getElem_of_mem hp
 have hk := h.ls.ok i hi
 rw [List.getD_eq_getElem?_getD, List.getElem?_eq_getElem hi] at hk
 simp only [Option.getD_some] at hk
 have hq := hk.p j hj
 rw [List.getD_eq_getElem?_getD (l := (H.lists[i]).pages), List.getElem?_eq_getElem hj] at hq
 simp only [Option.getD_some] at hq
 have hz := hk.z
 have z0 := h.zs.m0.new
 have z1 := h.zs.m1.new
 unfold newOk at z0 z1
 have f0 := h.zs.f0
 have f1 := h.zs.f1
 have t1 := h.zs.t1
 rcases (show (H.lists[i]).z = 0 ∨ (H.lists[i]).z = 1 by omega) with e | e <;> rw [e] at hq
 ·have hq' : (H.zones.getD 0 ⟨0, 0, [], []⟩).f ≤ (H.lists[i]).pages[j] ∧ (H.lists[i]).pages[j] < (H.zones.getD 0 ⟨0, 0, [], []⟩).t := hq
  omega
 have hq' : (H.zones.getD 1 ⟨0, 0, [], []⟩).f ≤ (H.lists[i]).pages[j] ∧ (H.lists[i]).pages[j] < (H.zones.getD 1 ⟨0, 0, [], []⟩).t := hq
 omega
theorem Kit.HMay.canBacks {H : Hp} (h : HMay H) : CanBacks H (H.lists.flatMap (·.pages)) ∧ ZsOk (backs H (H.lists.flatMap (·.pages))) ∧ ∀ p, zcnt (backs H (H.lists.flatMap (·.pages))) p = zcnt H p + Kit.cnt ((H.lists.flatMap (·.pages)).map pgB) p :=
 backs_ok _ H h.zs (fun _ hp => h.pageR hp) (fun p => by have := h.cntLe p; omega)
open Go Go.RowKit Go.Proofs.YtjohdbiipeedkaaGreatDoor.Kit
def emptyH (H : Hp) : Hp := { backs H (H.lists.flatMap (·.pages)) with lists := [] }
def find2H (H : Hp) (cpu o fl : Int) : Option (Hp × Int) :=
 match findH H cpu o fl with
 | some r => some r
 | none => findH (emptyH H) cpu o fl
def allocH (H : Hp) (cpu o fl : Int) : Option (Hp × Int) := (find2H H cpu o fl).map fun r => ({ r.1 with live := addB r.1.live ⟨r.2, o, typeF fl⟩ }, r.2)
theorem find2_one {H : Hp} {cpu o fl : Int} {r : Hp × Int} (h : findH H cpu o fl = some r) : find2H H cpu o fl = some r := by unfold find2H; rw [h]
theorem find2_two {H : Hp} {cpu o fl : Int} (h : findH H cpu o fl = none) : find2H H cpu o fl = findH (emptyH H) cpu o fl := by unfold find2H; rw [h]
theorem emptyH_zs {H : Hp} (h : HMay H) : ZsOk (emptyH H) := by
 have k := h.canBacks.2.1
 exact ⟨k.n, k.m0, k.m1, k.f0, k.f1, k.t1⟩
theorem emptyH_ls (H : Hp) : LssOk (emptyH H) := ⟨fun i hi => absurd hi (Nat.not_lt_zero i), fun i _ hi => absurd hi (Nat.not_lt_zero i)⟩
theorem emptyH_rest (H : Hp) : (emptyH H).mins = H.mins ∧ (emptyH H).cpus = H.cpus ∧ (emptyH H).live = H.live ∧ (emptyH H).lists = [] := by
 have := backs_lists H (H.lists.flatMap (·.pages))
 exact ⟨this.2.1, this.2.2.1, this.2.2.2, rfl⟩
def lcnt (l : List Ls) (p : Int) : Nat := Kit.cnt ((l.flatMap (·.pages)).map pgB) p
def occ (H : Hp) (p : Int) : Nat := zcnt H p + (lcnt H.lists p + Kit.cnt H.live p)
theorem hmay_of {H : Hp} (zs : ZsOk H) (mn : MnOk H) (hc : 1 ≤ H.cpus ∧ H.cpus ≤ 4) (ls : LssOk H) (lv : LvsOk H.live) (h : ∀ p, occ H p ≤ 1) : HMay H := by
 refine ⟨zs, mn, hc, ls, lv, cnt_apt fun p => ?_⟩
 have := h p
 unfold occ lcnt zcnt at this
 unfold placed
 rw [List.nil_append, cnt_append, cnt_append]
 rw [List.map_flatMap] at this
 exact this
theorem Kit.HMay.occLe {H : Hp} (h : HMay H) (p : Int) : occ H p ≤ 1 := h.cntLe p
theorem lcnt_append (l m : List Ls) (p : Int) : lcnt (l ++ m) p = lcnt l p + lcnt m p := by
 unfold lcnt
 rw [List.flatMap_append, List.map_append, cnt_append]
theorem lcnt_cons (x : Ls) (l : List Ls) (p : Int) : lcnt (x :: l) p = Kit.cnt (x.pages.map pgB) p + lcnt l p := by
 unfold lcnt
 rw [List.flatMap_cons, List.map_append, cnt_append]
theorem lcnt_at {l : List Ls} {i : Nat} (h : i < l.length) (p : Int) : lcnt l p = lcnt (l.eraseIdx i) p + Kit.cnt ((l.getD i .zero).pages.map pgB) p := by
 have e : l = l.take i ++ l.getD i .zero :: l.drop (i + 1) := by
  rw [List.getD_eq_getElem?_getD, List.getElem?_eq_getElem h]
  simp
 conv => lhs; rw [e]
 rw [lcnt_append, lcnt_cons, List.eraseIdx_eq_take_drop_succ, lcnt_append]
 omega
theorem setLs_cnt {l : List Ls} (hr : RiseP l) (x : Ls) (p : Int) : lcnt (setLs l x) p + Kit.cnt ((lsPages l x).map pgB) p = lcnt l p + Kit.cnt (x.pages.map pgB) p := by
 obtain ⟨i, b, hA⟩ := at_exists hr x
 rw [setLs_at hr hA, lsPages_at hr hA]
 have hput : ∀ m : List Ls, lcnt (m.take i ++ x :: m.drop i) p = lcnt m p + Kit.cnt (x.pages.map pgB) p := fun m => by
  conv => rhs; rw [← List.take_append_drop i m]
  rw [lcnt_append, lcnt_cons, lcnt_append]
  omega
 have h0 : x.pages.length = 0 → Kit.cnt (x.pages.map pgB) p = 0 := fun h => by
  rw [List.eq_nil_of_length_eq_zero h]; rfl
 cases b with
 | true =>
  have hi := (hA.2.2.2.1 rfl).1
  simp only [if_true]
  rw [lcnt_at hi p]
  by_cases h : x.pages.length = 0
  ·rw [if_pos h, h0 h]; omega
  rw [if_neg h, hput]; omega
 | false =>
  simp only [Bool.false_eq_true, if_false]
  have hz : Kit.cnt (([] : List Int).map pgB) p = 0 := rfl
  rw [hz]
  by_cases h : x.pages.length = 0
  ·rw [if_pos h, h0 h]
  rw [if_neg h, hput]; rfl
theorem setLs_mem {l : List Ls} {x a : Ls} (h : a ∈ setLs l x) : a ∈ l ∨ (a = x ∧ x.pages.length ≠ 0) := by
 unfold setLs at h
 rcases List.mem_append.1 h with h | h
 ·exact .inl (List.mem_filter.1 h).1
 rcases List.mem_append.1 h with h | h
 ·split at h
  ·cases h
  rename_i hx
  rw [List.mem_singleton] at h
  exact .inr ⟨h, hx⟩
 exact .inl (List.mem_filter.1 h).1
theorem setLs_rise {l : List Ls} (hr : RiseP l) (x : Ls) : RiseP (setLs l x) := by
 unfold setLs RiseP
 rw [List.pairwise_append, List.pairwise_append]
 refine ⟨hr.filter _, ⟨by split <;> simp, hr.filter _, fun a ha b hb => ?_⟩, fun a ha b hb => ?_⟩
 ·split at ha
  ·cases ha
  rw [List.mem_singleton] at ha
  subst ha
  exact of_decide_eq_true (List.mem_filter.1 hb).2
 have h1 := of_decide_eq_true (List.mem_filter.1 ha).2
 rcases List.mem_append.1 hb with hb | hb
 ·split at hb
  ·cases hb
  rw [List.mem_singleton] at hb
  subst hb
  exact h1
 exact ahead_trans h1 (of_decide_eq_true (List.mem_filter.1 hb).2)
theorem riseP_ls {H : Hp} (h : LssOk H) : RiseP H.lists := by
 have hs : ∀ (d i : Nat), i + d + 1 < H.lists.length → aheadL (H.lists.getD i .zero) (H.lists.getD (i + d + 1) .zero) := by
  intro d
  induction d with
  | zero =>
   intro i hi
   have := h.ord (i + 1) (by omega) hi
   rwa [show i + 1 - 1 = i by omega] at this
  | succ d ih =>
   intro i hi
   have h1 := ih i (by omega)
   have h2 := h.ord (i + d + 2) (by omega) hi
   rw [show i + d + 2 - 1 = i + d + 1 by omega] at h2
   exact ahead_trans h1 h2
 refine List.pairwise_iff_getElem.2 fun i j hi hj hij => ?_
 have := hs (j - i - 1) i (by omega)
 rw [show i + (j - i - 1) + 1 = j by omega] at this
 rwa [List.getD_eq_getElem?_getD, List.getElem?_eq_getElem hi, List.getD_eq_getElem?_getD, List.getElem?_eq_getElem hj] at this
theorem lssOk_of {H : Hp} (h1 : ∀ a ∈ H.lists, LsOk H a) (h2 : RiseP H.lists) : LssOk H := by
 refine ⟨fun i hi => h1 _ (getD_mem hi), fun i h0 hi => ?_⟩
 have := List.pairwise_iff_getElem.1 h2 (i - 1) i (by omega) hi (by omega)
 simp only [List.getD_eq_getElem?_getD]
 rw [List.getElem?_eq_getElem hi, List.getElem?_eq_getElem (show i - 1 < H.lists.length by omega)]
 exact this
theorem lsPages_list {l : List Ls} {x : Ls} (h : 0 < (lsPages l x).length) : ∃ a ∈ l, a.c = x.c ∧ a.z = x.z ∧ a.t = x.t ∧ a.pages = lsPages l x := by
 unfold lsPages at h ⊢
 cases e : l.find? (fun a => decide (a.c = x.c ∧ a.z = x.z ∧ a.t = x.t)) with
 | none => rw [e] at h; simp at h
 | some a =>
  have hk := List.find?_some e
  have hd := of_decide_eq_true hk
  exact ⟨a, List.mem_of_find?_eq_some e, hd.1, hd.2.1, hd.2.2, rfl⟩
def SameFT (G H : Hp) : Prop := ∀ i, (G.zones.getD i ⟨0, 0, [], []⟩).f = (H.zones.getD i ⟨0, 0, [], []⟩).f ∧ (G.zones.getD i ⟨0, 0, [], []⟩).t = (H.zones.getD i ⟨0, 0, [], []⟩).t
theorem LsOk.ft {G H : Hp} {l : Ls} (h : LsOk H l) (hc : G.cpus = H.cpus) (hs : SameFT G H) : LsOk G l :=
 ⟨by rw [hc]; exact h.c, h.z, h.t, h.n, fun i hi => by rw [(hs _).1, (hs _).2]; exact h.p i hi⟩
theorem fits {a o t : Int} (ho : ordOk o) (h : a % pw o = 0) (ht : t % 16 = 0) (hl : a < t) : a + pw o ≤ t := by
 rcases ord_cases ho with ⟨rfl, e⟩ | ⟨rfl, e⟩ | ⟨rfl, e⟩ | ⟨rfl, e⟩ | ⟨rfl, e⟩ <;> rw [e] at h ⊢ <;> omega
theorem takeZ_ft (z : Zn) (o t : Int) (i : Nat) : (takeZ z o t i).f = z.f ∧ (takeZ z o t i).t = z.t := by
 unfold takeZ stolenZ
 dsimp only
 split <;> exact ⟨rfl, rfl⟩
structure TookOk (H G : Hp) (z : Nat) (o p : Int) : Prop where
 zs : ZsOk G
 ft : SameFT G H
 mins : G.mins = H.mins
 cpus : G.cpus = H.cpus
 lists : G.lists = H.lists
 live : G.live = H.live
 cnt : ∀ q, zcnt G q + hit p o q = zcnt H q
 lo : (H.zones.getD z ⟨0, 0, [], []⟩).f ≤ p
 hi : p + pw o ≤ (H.zones.getD z ⟨0, 0, [], []⟩).t
 al : p % pw o = 0
theorem takeH_took {H G : Hp} {z : Nat} {o fl p : Int} (hZ : ZsOk H) (hz : z < 2) (ho : ordOk o) (h : takeGH H z o fl = some (G, p)) : TookOk H G z o p := by
 obtain ⟨_, i, hC, rfl, rfl⟩ := takeH_some h
 have hm : ZMay (H.zones.getD z ⟨0, 0, [], []⟩) := by rcases (show z = 0 ∨ z = 1 by omega) with rfl | rfl; (exact hZ.m0); exact hZ.m1
 obtain ⟨j, e, hj, hob⟩ := choose_in (l := (H.zones.getD z ⟨0, 0, [], []⟩).free) (o := o) (t := typeF fl) (by omega)
 obtain rfl : j = i := by omega
 obtain ⟨⟨b1, a1, a2, a3⟩, b2, _⟩ := freeOk_at hm.free hj rfl
 have hft := takeZ_ft (H.zones.getD z ⟨0, 0, [], []⟩) o (typeF fl) j
 have hgz : ∀ k, (({ H with zones := H.zones.set z (takeZ (H.zones.getD z ⟨0, 0, [], []⟩) o (typeF fl) j) } : Hp).zones.getD k ⟨0, 0, [], []⟩) = if k = z then takeZ (H.zones.getD z ⟨0, 0, [], []⟩) o (typeF fl) j else H.zones.getD k ⟨0, 0, [], []⟩ := by
  intro k
  show (H.zones.set z _).getD k _ = _
  have hl := hZ.n
  rw [List.getD_eq_getElem?_getD, List.getElem?_set]
  by_cases hk : k = z
  ·rw [if_pos hk.symm, if_pos hk, if_pos (by omega)]; rfl
  rw [if_neg (fun e => hk e.symm), if_neg hk, List.getD_eq_getElem?_getD]
 have hct := fun q => cnt_take (t := typeF fl) hj ho.1 hob q
 have hal := mod_down b1 ho.1 hob a3
 have hnw := hm.new
 unfold newOk at hnw
 have hfit : ((H.zones.getD z ⟨0, 0, [], []⟩).free.getD j .zero).a + pw o ≤ (H.zones.getD z ⟨0, 0, [], []⟩).t := fits ho hal hnw.2.2.2.2 (by omega)
 refine ⟨hZ.take hz ho (typeF_ok fl) hC, fun k => ?_, rfl, rfl, rfl, rfl, fun q => ?_, a1, hfit, hal⟩
 ·rw [hgz]
  split
  ·rename_i hk; rw [hk]; exact hft
  exact ⟨rfl, rfl⟩
 rw [zcnt_two (by show (H.zones.set z _).length = 2; rw [List.length_set]; exact hZ.n), zcnt_two hZ.n, hgz, hgz]
 have := hct q
 rcases (show z = 0 ∨ z = 1 by omega) with rfl | rfl
 ·rw [if_pos rfl, if_neg (by omega)]; omega
 rw [if_neg (by omega), if_pos rfl]; omega
structure FoundOk (H G : Hp) (o p : Int) : Prop where
 zs : ZsOk G
 ft : SameFT G H
 mins : G.mins = H.mins
 cpus : G.cpus = H.cpus
 live : G.live = H.live
 ls : LssOk G
 cnt : ∀ q, zcnt G q + lcnt G.lists q + hit p o q = zcnt H q + lcnt H.lists q
 lo : 0 ≤ p
 hi : p + pw o ≤ 256
 al : p % pw o = 0
theorem zone_in256 {H : Hp} (h : ZsOk H) {z : Nat} (hz : z < 2) : 0 ≤ (H.zones.getD z ⟨0, 0, [], []⟩).f ∧ (H.zones.getD z ⟨0, 0, [], []⟩).t ≤ 256 := by
 have z0 := h.m0.new
 have z1 := h.m1.new
 unfold newOk at z0 z1
 rcases (show z = 0 ∨ z = 1 by omega) with rfl | rfl <;> omega
theorem lssOk_ft {G H : Hp} (h : LssOk H) (hl : G.lists = H.lists) (hc : G.cpus = H.cpus) (hs : SameFT G H) : LssOk G :=
 ⟨fun i hi => by rw [hl] at hi ⊢; exact LsOk.ft (h.ok i hi) hc hs, fun i h0 hi => by rw [hl] at hi ⊢; exact h.ord i h0 hi⟩
theorem TookOk.found {H G : Hp} {z : Nat} {o p : Int} (h : TookOk H G z o p) (hZ : ZsOk H) (hL : LssOk H) (hz : z < 2) : FoundOk H G o p := by
 have hb := zone_in256 hZ hz
 have h1 := h.lo
 have h2 := h.hi
 exact ⟨h.zs, h.ft, h.mins, h.cpus, h.live, lssOk_ft hL h.lists h.cpus h.ft, fun q => by have := h.cnt q; rw [h.lists]; omega, by omega, by omega, h.al⟩
theorem cnt_pgs (l m : List Int) (q : Int) : Kit.cnt ((l ++ m).map pgB) q = Kit.cnt (l.map pgB) q + Kit.cnt (m.map pgB) q := by
 rw [List.map_append, cnt_append]
theorem cnt_pg1 (p q : Int) : Kit.cnt ([p].map pgB) q = hit p 0 q := by
 show Kit.cnt [pgB p] q = _
 rw [cnt_one]; rfl
theorem cnt_last {l : List Int} (h : 0 < l.length) (q : Int) : Kit.cnt ((l.take (l.length - 1)).map pgB) q + hit (l.getD (l.length - 1) 0) 0 q = Kit.cnt (l.map pgB) q := by
 have e : l = l.take (l.length - 1) ++ [l.getD (l.length - 1) 0] := by
  conv => lhs; rw [← List.take_append_drop (l.length - 1) l]
  congr 1
  rw [List.getD_eq_getElem?_getD, List.getElem?_eq_getElem (show l.length - 1 < l.length by omega)]
  rw [List.drop_eq_getElem_cons (by omega), List.drop_eq_nil_of_le (by omega)]
  rfl
 conv => rhs; rw [e]
 rw [cnt_pgs, cnt_pg1]
theorem more_ok : ∀ (n : Nat) (H : Hp) (z : Nat) (fl : Int) (l : List Int), ZsOk H → z < 2 →
    ∃ ps, (moreH n H z fl l).2 = l ++ ps ∧ ps.length ≤ n ∧ ZsOk (moreH n H z fl l).1 ∧ SameFT (moreH n H z fl l).1 H ∧ (moreH n H z fl l).1.mins = H.mins ∧ (moreH n H z fl l).1.cpus = H.cpus ∧ (moreH n H z fl l).1.lists = H.lists ∧ (moreH n H z fl l).1.live = H.live ∧
     (∀ q, zcnt (moreH n H z fl l).1 q + Kit.cnt (ps.map pgB) q = zcnt H q) ∧ ∀ p ∈ ps, (H.zones.getD z ⟨0, 0, [], []⟩).f ≤ p ∧ p < (H.zones.getD z ⟨0, 0, [], []⟩).t
 | 0, H, z, fl, l, hZ, _ => ⟨[], by simp [moreH], Nat.le_refl _, hZ, fun _ => ⟨rfl, rfl⟩, rfl, rfl, rfl, rfl, fun q => by show zcnt H q + 0 = _; omega, fun p hp => by cases hp⟩
 | n + 1, H, z, fl, l, hZ, hz => by
  cases hr : takeGH H z 0 fl with
  | none =>
   rw [moreH_none hr]
   exact ⟨[], by simp, Nat.zero_le _, hZ, fun _ => ⟨rfl, rfl⟩, rfl, rfl, rfl, rfl, fun q => by show zcnt H q + 0 = _; omega, fun p hp => by cases hp⟩
  | some r =>
   obtain ⟨G, p⟩ := r
   rw [moreH_some hr]
   have T := takeH_took hZ hz (by unfold ordOk; omega) hr
   obtain ⟨ps, h1, h2, h3, h4, h5, h6, h7, h8, h9, h10⟩ := more_ok n G z fl (l ++ [p]) T.zs hz
   refine ⟨p :: ps, by rw [h1]; simp, by simpa using h2, h3, fun i => ⟨(h4 i).1.trans (T.ft i).1, (h4 i).2.trans (T.ft i).2⟩, h5.trans T.mins, h6.trans T.cpus, h7.trans T.lists, h8.trans T.live, fun q => ?_, fun x hx => ?_⟩
   ·have a1 := h9 q
    have a2 := T.cnt q
    have a3 : Kit.cnt ((p :: ps).map pgB) q = hit p 0 q + Kit.cnt (ps.map pgB) q := by
     rw [show p :: ps = [p] ++ ps from rfl, cnt_pgs, cnt_pg1]
    omega
   rcases List.mem_cons.1 hx with rfl | hx
   ·have a1 := T.lo
    have a2 := T.hi
    rw [pw_0] at a2
    omega
   have := h10 x hx
   rw [(T.ft z).1, (T.ft z).2] at this
   exact this
theorem lists_put {H G : Hp} {x : Ls} (hL : LssOk H) (hx : x.pages.length ≠ 0 → LsOk G x) (hl : G.lists = setLs H.lists x) (hc : G.cpus = H.cpus) (hs : SameFT G H) : LssOk G := by
 refine lssOk_of (fun a ha => ?_) (by rw [hl]; exact setLs_rise (riseP_ls hL) x)
 rw [hl] at ha
 rcases setLs_mem ha with h | ⟨rfl, h⟩
 ·exact LsOk.ft (lss_mem hL h) hc hs
 exact hx h
theorem single_ok {H G : Hp} {cpu : Int} {z : Nat} {fl p : Int} (hZ : ZsOk H) (hL : LssOk H) (hz : z < 2) (hc : 0 ≤ cpu ∧ cpu < H.cpus) (h : singleH H cpu z fl = some (G, p)) : FoundOk H G 0 p := by
 have hr := riseP_ls hL
 unfold singleH at h
 obtain ⟨L, hLd⟩ : ∃ L, lsPages H.lists ⟨cpu, (z : Nat), typeF fl, []⟩ = L := ⟨_, rfl⟩
 rw [hLd] at h
 by_cases h0 : 0 < L.length
 ·rw [if_pos h0] at h
  simp only [Option.some.injEq, Prod.mk.injEq] at h
  obtain ⟨rfl, rfl⟩ := h
  obtain ⟨A, hA, c1, c2, c3, c4⟩ := lsPages_list (l := H.lists) (x := ⟨cpu, (z : Nat), typeF fl, []⟩) (by rw [hLd]; exact h0)
  rw [hLd] at c4
  dsimp only at c1 c2 c3
  have k := lss_mem hL hA
  have kp := k.p
  have kn := k.n
  rw [c4] at kp kn
  have hzt : A.z.toNat = z := by omega
  rw [hzt] at kp
  have hb := zone_in256 hZ hz
  have hlast := kp (L.length - 1) (by omega)
  refine ⟨⟨hZ.n, hZ.m0, hZ.m1, hZ.f0, hZ.f1, hZ.t1⟩, fun _ => ⟨rfl, rfl⟩, rfl, rfl, rfl, lists_put hL (fun hne => ?_) rfl rfl (fun _ => ⟨rfl, rfl⟩), fun q => ?_, by omega, by rw [pw_0]; omega, by rw [pw_0]; omega⟩
  ·refine ⟨hc, ⟨by dsimp only; omega, by dsimp only; omega⟩, typeF_ok fl, ⟨by dsimp only at hne ⊢; omega, by dsimp only; rw [List.length_take]; omega⟩, fun i hi => ?_⟩
   dsimp only at hi ⊢
   rw [List.length_take] at hi
   have := kp i (by omega)
   rw [show ((z : Nat) : Int).toNat = z from Int.toNat_natCast z]
   have e : (L.take (L.length - 1)).getD i 0 = L.getD i 0 := by
    simp only [List.getD_eq_getElem?_getD]
    rw [List.getElem?_take_of_lt (by omega)]
   rw [e]
   exact this
  have a1 := setLs_cnt hr ⟨cpu, (z : Nat), typeF fl, L.take (L.length - 1)⟩ q
  have e : lsPages H.lists ⟨cpu, (z : Nat), typeF fl, L.take (L.length - 1)⟩ = L := hLd
  rw [e] at a1
  have a2 := cnt_last h0 q
  show zcnt H q + lcnt (setLs H.lists _) q + _ = _
  dsimp only at a1
  omega
 rw [if_neg h0] at h
 cases ht : takeGH H z 0 fl with
 | none => rw [ht] at h; cases h
 | some r =>
  obtain ⟨G1, p1⟩ := r
  rw [ht] at h
  simp only [Option.some.injEq, Prod.mk.injEq] at h
  obtain ⟨rfl, rfl⟩ := h
  have T := takeH_took hZ hz (by unfold ordOk; omega) ht
  obtain ⟨ps, h1, h2, h3, h4, h5, h6, h7, h8, h9, h10⟩ := more_ok 3 G1 z fl [] T.zs hz
  rw [List.nil_append] at h1
  have F := T.found hZ hL hz
  have hft : SameFT (moreH 3 G1 z fl []).1 H := fun i => ⟨(h4 i).1.trans (T.ft i).1, (h4 i).2.trans (T.ft i).2⟩
  rw [h1]
  refine ⟨⟨h3.n, h3.m0, h3.m1, h3.f0, h3.f1, h3.t1⟩, hft, h5.trans T.mins, h6.trans T.cpus, h8.trans T.live, lists_put (H := H) hL (fun hne => ?_) (by show setLs _ _ = _; rw [h7, T.lists]) (h6.trans T.cpus) hft, fun q => ?_, F.lo, F.hi, F.al⟩
  ·refine ⟨by show 0 ≤ cpu ∧ cpu < (moreH 3 G1 z fl []).1.cpus; rw [h6, T.cpus]; exact hc, ⟨by dsimp only; omega, by dsimp only; omega⟩, typeF_ok fl, ⟨by dsimp only at hne ⊢; omega, by dsimp only; omega⟩, fun i hi => ?_⟩
   dsimp only at hi ⊢
   rw [show ((z : Nat) : Int).toNat = z from Int.toNat_natCast z]
   have := h10 _ (getD_mem (d := (0 : Int)) hi)
   rw [(T.ft z).1, (T.ft z).2] at this
   show ((moreH 3 G1 z fl []).1.zones.getD z _).f ≤ _ ∧ _ < ((moreH 3 G1 z fl []).1.zones.getD z _).t
   rw [(hft z).1, (hft z).2]
   exact this
  have a1 := setLs_cnt hr ⟨cpu, (z : Nat), typeF fl, ps⟩ q
  have e : lsPages H.lists ⟨cpu, (z : Nat), typeF fl, ps⟩ = L := hLd
  rw [e, List.eq_nil_of_length_eq_zero (show L.length = 0 by omega)] at a1
  have a0 : Kit.cnt (([] : List Int).map pgB) q = 0 := rfl
  have a2 := h9 q
  have a3 := T.cnt q
  show zcnt (moreH 3 G1 z fl []).1 q + lcnt (setLs (moreH 3 G1 z fl []).1.lists _) q + _ = _
  rw [h7, T.lists]
  dsimp only at a1
  omega
theorem try_ok {H G : Hp} {cpu : Int} {z : Nat} {o fl p : Int} (hZ : ZsOk H) (hL : LssOk H) (hz : z < 2) (ho : ordOk o) (hc : 0 ≤ cpu ∧ cpu < H.cpus) (h : tryH H cpu z o fl = some (G, p)) : FoundOk H G o p := by
 unfold tryH at h
 split at h
 ·rename_i h0; subst h0; exact single_ok hZ hL hz hc h
 exact (takeH_took hZ hz ho h).found hZ hL hz
theorem find_ok {H G : Hp} {cpu o fl p : Int} (hZ : ZsOk H) (hL : LssOk H) (ho : ordOk o) (hc : 0 ≤ cpu ∧ cpu < H.cpus) (h : findH H cpu o fl = some (G, p)) : FoundOk H G o p := by
 unfold findH at h
 split at h
 ·exact try_ok hZ hL (by omega) ho hc h
 cases h1 : tryH H cpu 1 o fl with
 | some r => rw [h1] at h; cases h; exact try_ok hZ hL (by omega) ho hc h1
 | none => rw [h1] at h; exact try_ok hZ hL (by omega) ho hc h
theorem lvs_iff {l : List Bk} : LvsOk l ↔ (∀ b ∈ l, LvOk b) ∧ l.Pairwise fun a b => a.a < b.a := by
 constructor
 ·intro h
  refine ⟨fun b hb => ?_, ?_⟩
  ·obtain ⟨i, hi, rfl⟩ := List.getElem_of_mem hb
   have := h.ok i hi
   rwa [List.getD_eq_getElem?_getD, List.getElem?_eq_getElem hi] at this
  have hs : ∀ (d i : Nat), i + d + 1 < l.length → (l.getD i .zero).a < (l.getD (i + d + 1) .zero).a := by
   intro d
   induction d with
   | zero =>
    intro i hi
    have := h.ord (i + 1) (by omega) hi
    rwa [show i + 1 - 1 = i by omega] at this
   | succ d ih =>
    intro i hi
    have h1 := ih i (by omega)
    have h2 := h.ord (i + d + 2) (by omega) hi
    rw [show i + d + 2 - 1 = i + d + 1 by omega] at h2
    exact Int.lt_trans h1 h2
  refine List.pairwise_iff_getElem.2 fun i j hi hj hij => ?_
  have := hs (j - i - 1) i (by omega)
  rw [show i + (j - i - 1) + 1 = j by omega] at this
  rwa [List.getD_eq_getElem?_getD, List.getElem?_eq_getElem hi, List.getD_eq_getElem?_getD, List.getElem?_eq_getElem hj] at this
 rintro ⟨h1, h2⟩
 refine ⟨fun i hi => h1 _ (getD_mem hi), fun i h0 hi => ?_⟩
 have := List.pairwise_iff_getElem.1 h2 (i - 1) i (by omega) hi (by omega)
 simp only [List.getD_eq_getElem?_getD]
 rw [List.getElem?_eq_getElem hi, List.getElem?_eq_getElem (show i - 1 < l.length by omega)]
 exact this
theorem add_rise {l : List Bk} {b : Bk} (h : l.Pairwise fun a b => a.a < b.a) (hne : ∀ x ∈ l, x.a ≠ b.a) : (addB l b).Pairwise fun a b => a.a < b.a := by
 induction l with
 | nil => simp [addB]
 | cons x l ih =>
  unfold addB
  have hx := List.pairwise_cons.1 h
  split
  ·rename_i hg
   refine List.pairwise_cons.2 ⟨fun y hy => ?_, h⟩
   rcases List.mem_cons.1 hy with rfl | hy
   ·exact hg
   have := hx.1 y hy; omega
  rename_i hg
  refine List.pairwise_cons.2 ⟨fun y hy => ?_, ih hx.2 (fun y hy => hne y (List.mem_cons_of_mem _ hy))⟩
  rcases mem_addB.1 hy with rfl | hy
  ·have := hne x List.mem_cons_self; omega
  exact hx.1 y hy
theorem alloc_may {H G : Hp} {cpu o fl p : Int} (h : HMay H) (hc : 0 ≤ cpu ∧ cpu ≤ H.cpus - 1) (ho : ordOk o) (hf : find2H H cpu o fl = some (G, p)) :
    HMay { G with live := addB G.live ⟨p, o, typeF fl⟩ } ∧ G.live = H.live ∧ G.cpus = H.cpus ∧ SameFT G H ∧ ∀ q, occ { G with live := addB G.live ⟨p, o, typeF fl⟩ } q = occ H q := by
 have key : G.mins = H.mins ∧ G.cpus = H.cpus ∧ G.live = H.live ∧ ZsOk G ∧ LssOk G ∧ SameFT G H ∧ (∀ q, zcnt G q + lcnt G.lists q + hit p o q = zcnt H q + lcnt H.lists q) ∧ 0 ≤ p ∧ p + pw o ≤ 256 ∧ p % pw o = 0 := by
  cases h1 : findH H cpu o fl with
  | some r =>
   rw [find2_one h1] at hf
   cases hf
   have F := find_ok h.zs h.ls ho (by omega) h1
   exact ⟨F.mins, F.cpus, F.live, F.zs, F.ls, F.ft, F.cnt, F.lo, F.hi, F.al⟩
  | none =>
   rw [find2_two h1] at hf
   have R := emptyH_rest H
   have F := find_ok (emptyH_zs h) (emptyH_ls H) ho (by rw [R.2.1]; omega) hf
   have hft : SameFT (emptyH H) H := fun i => by have h := backs_ft i (H.lists.flatMap (·.pages)) H; exact h
   refine ⟨F.mins.trans R.1, F.cpus.trans R.2.1, F.live.trans R.2.2.1, F.zs, F.ls, fun i => ⟨(F.ft i).1.trans (hft i).1, (F.ft i).2.trans (hft i).2⟩, fun q => ?_, F.lo, F.hi, F.al⟩
   have a1 := F.cnt q
   have a2 : zcnt (emptyH H) q = zcnt H q + lcnt H.lists q := h.canBacks.2.2 q
   have a3 : lcnt (emptyH H).lists q = 0 := rfl
   omega
 obtain ⟨k1, k2, k3, k4, k5, k6, k7, k8, k9, k10⟩ := key
 have hocc : ∀ q, occ { G with live := addB G.live ⟨p, o, typeF fl⟩ } q = occ H q := fun q => by
  have a1 := k7 q
  have a2 := cnt_add G.live ⟨p, o, typeF fl⟩ q
  show zcnt G q + (lcnt G.lists q + Kit.cnt (addB G.live ⟨p, o, typeF fl⟩) q) = zcnt H q + (lcnt H.lists q + Kit.cnt H.live q)
  rw [a2, k3]
  dsimp only
  omega
 have hpw := pw_pos o
 have hne : ∀ x ∈ G.live, x.a ≠ p := by
  intro x hx e
  have h1 := hocc p
  have h2 := h.occLe p
  have h3 : 1 ≤ hit p o p := by unfold hit; rw [if_pos ⟨Int.le_refl _, by omega⟩]; exact Nat.le_refl _
  have h4 : 1 ≤ Kit.cnt G.live p := by
   have := (cnt_pos (l := G.live) (p := p)).2 ⟨x, hx, by omega, by have := pw_pos x.o; omega⟩
   exact this
  have h5 : occ { G with live := addB G.live ⟨p, o, typeF fl⟩ } p = zcnt G p + (lcnt G.lists p + Kit.cnt (addB G.live ⟨p, o, typeF fl⟩) p) := rfl
  rw [cnt_add] at h5
  dsimp only at h5
  omega
 have hlv := lvs_iff.1 h.lv
 refine ⟨hmay_of ⟨k4.n, k4.m0, k4.m1, k4.f0, k4.f1, k4.t1⟩ ⟨by show G.mins.length = 2; rw [k1]; exact h.mn.n, by show 0 ≤ G.mins.getD 0 0 ∧ _; rw [k1]; exact h.mn.a, by show 0 ≤ G.mins.getD 1 0 ∧ _; rw [k1]; exact h.mn.b⟩ (by show 1 ≤ G.cpus ∧ _; rw [k2]; exact h.cpus) ⟨fun i hi => ⟨(k5.ok i hi).c, (k5.ok i hi).z, (k5.ok i hi).t, (k5.ok i hi).n, (k5.ok i hi).p⟩, k5.ord⟩ (lvs_iff.2 ⟨fun b hb => ?_, add_rise (by rw [k3]; exact hlv.2) hne⟩) (fun q => by rw [hocc q]; exact h.occLe q), k3, k2, k6, hocc⟩
 rcases mem_addB.1 hb with rfl | hb
 ·exact ⟨ho, ⟨k8, by dsimp only; omega⟩, k10, typeF_ok fl⟩
 rw [k3] at hb
 exact hlv.1 b hb
theorem zero_int : ∀ w, (zeroValue 3).run Tryz.prog w = .ok (.int .i64 0) w := fun w => by
 have h := info_int
 cases hq : Tryz.prog.info? 3 with
 | none => simp [hq] at h
 | some i =>
  simp [hq] at h
  simp [zeroValue, typeInfo, hq, h.1]
theorem zero_oneI : ∀ v ∈ (Value.int .i64 0).cells, v.oneCell' = true := by
 intro v hv
 have h : v ∈ (#[.int .i64 0] : Array Value) := hv
 simp at h
 subst h
 rfl
theorem iDel4_any (w : World) (base g cap : Nat) (xs : List Int) (own : w.ownsRow base 3 1 (.slice (some ⟨g, 0, none⟩) 9 cap) 9 (vals xs)) :
    Calls Tryz.prog 87 #[.slice (some ⟨g, 0, none⟩) 9 cap, .int .i64 0, .int .i64 4] w fun e w' => e = .returned (.slice (some ⟨g, 0, none⟩) 5 cap) ∧
     w'.ownsRow base 3 1 (.slice (some ⟨g, 0, none⟩) 5 cap) 5 (vals (xs.drop 4)) ∧ But g w w' := by
 obtain ⟨i1, hj, hy0, hy1, hy2⟩ := info_parts info_int
 have hll : xs.length = 9 := by have := own.1; rw [length_vals] at this; omega
 obtain ⟨hbg, hnc, cur, R, hcur⟩ := Row.of own
 have hm := R.m
 unfold maxLen at hm
 have own1 : w.drew.ownsRow base 3 1 (.slice (some ⟨g, 0, none⟩) 0 cap) 0 [] :=
  (R.below (Below.refl _ _).drew).owns hbg (by omega) (by simp)
 obtain ⟨news, hnews⟩ : ∃ news, news = vals (xs.drop 4) := ⟨_, rfl⟩
 have hnl : news.length = 5 * 1 := by rw [hnews, length_vals, List.length_drop, hll]
 have hn1 : ∀ u ∈ news, u.oneCell' = true := by rw [hnews]; exact vals_oneCell _
 have hcell : ∀ j u, news[j]? = some u → w.drew.cell? ((⟨g, 4, none⟩ : Addr).add j) = some u := by
  intro j u hu
  rw [add_at, (R.below (Below.refl _ _).drew).cell]
  rw [hnews] at hu
  have e : vals (xs.drop 4) = (vals xs).drop 4 := by unfold vals; rw [List.map_drop]
  rw [e, List.getElem?_drop] at hu
  rw [← hcur, List.getElem?_take] at hu
  split at hu
  ·exact hu
  cases hu
 have HE : Hid (news = vals (xs.drop 4)) := hnews
 have Hcell : Hid _ := hcell
 have Hnl : Hid _ := hnl
 clear hnews hcur own hcell hnl
 have h5 : ¬ (cap = 4) := by omega
 have h6 : ¬ (cap = 0) := by omega
 have h7 : ¬ (cap = 5) := by omega
 have h8 : (4 : Int) ≤ (cap : Int) := by omega
 have h9 : (9 : Int) ≤ (cap : Int) := by omega
 have h10 : 4 ≤ cap := by omega
 have h11 : 9 ≤ cap := by omega
 go_enter Tryz.func87, Tryz.ntmps87
 go_wp2
 go_region_law (refine step_append_fits rfl (.tmp 22) (.tmp 25) 30 rfl 3 i1 1 Tryz.underlying30 hj hy1 base g 0 cap [] (by simp [Act.eval, Act.put]) own1 (some ⟨g, 4, none⟩) 5 (cap - 4) news (by simp [Act.eval, Act.put]) Hnl.out ⟨_, rfl, Hcell.out⟩ hn1 5 (by omega) (by omega) ?_; intro w1 ho1 hb1)
 all_goals
  obtain ⟨_, _, cur1, R1, hcur1⟩ := Row.of ho1
  have hl1 := R1.len
  clear own1 Hcell Hnl hn1 ho1 R
  go_wp2_with (refine wpList_clear_k rfl (.tmp 31) 30 rfl 3 _ 1 Tryz.underlying30 zero_int rfl zero_oneI _ _ _ rfl g 5 cur1 R1.h (fun _ => rfl) (by omega) ?_; intro w2 cur2 hg2 hb2)
  go_ret
  obtain ⟨g1, g2, g3⟩ := hg2.out
  have R2 : Row w2 3 1 g cap cur2 := ⟨g1, by rw [g2]; exact hl1, R1.m⟩
  exact ⟨rfl, R2.owns hbg (by omega) (by rw [show 5 * 1 = 5 from rfl, g3, hcur1, List.nil_append, HE.out]), ((But.of_below (Below.refl _ _).drew).trans hb1).trans hb2⟩
end Go.Proofs.YtjohdbiipeedkaaGreatDoor
namespace Go.Proofs.YtjohdbiipeedkaaGreatDoor.Kit
def typeZ (z : Zn) (a : Int) : Int := z.types.getD ((a - z.f) / 8).toNat 0
end Go.Proofs.YtjohdbiipeedkaaGreatDoor.Kit
namespace Go.Proofs.YtjohdbiipeedkaaGreatDoor
open Go Go.RowKit Go.Proofs.YtjohdbiipeedkaaGreatDoor.Kit
theorem zTypeAt_ok (w : World) (fo : Option Addr) (fn fc : Nat) (to_ : Option Addr) (tn tc : Nat) (z : Zn) (a : Int) (h : ZnAt w fo fn to_ tn z) (hM : ZMay z) (ha : z.f ≤ a ∧ a ≤ z.t - 1) :
    Calls Tryz.prog 85 #[.agg #[.int .i64 z.f, .int .i64 z.t, .slice fo fn fc, .slice to_ tn tc], .int .i64 a] w fun e w' => e = .returned (.tuple #[.int .i64 (typeZ z a), .int .i64 0]) ∧ Below w.heap.size w w' := by
 have I0 := ckInv_first w fo fn fc to_ tn tc z h
 have c0 := I0.box.c0
 have c1 := I0.box.c1
 have c2 := I0.box.c2
 have c3 := I0.box.c3
 have e2 : Hid (inB a z.f (z.t - 1) = true) := inB_t ha
 obtain ⟨n1, n2, n3, n4, n5⟩ := hM.new
 have hlen := hM.len
 have htl := h.types.len
 have htr := h.types.reach
 obtain ⟨K, hK⟩ : ∃ K : Nat, (a - z.f) / 8 = (K : Int) := ⟨((a - z.f) / 8).toNat, by omega⟩
 have hKn : K < tn := by omega
 have hKi : (K : Int) < (tn : Int) := by omega
 have HT : Hid (typeZ z a = z.types.getD K 0) := by show _ = _; unfold typeZ; rw [hK]; rfl
 clear h
 go_enter Tryz.func85, Tryz.ntmps85
 go_wp2_with fail
 go_at_call 49
 refine (zCheck_ok _ fo fn fc to_ tn tc z I0.zn hM).mono ?_
 rintro e w1 ⟨rfl, hb1⟩
 have I1 := I0.step hb1
 clear I0 c0 c1 c2 c3 hb1 hM
 have c0 := I1.box.c0
 have c1 := I1.box.c1
 have c2 := I1.box.c2
 have c3 := I1.box.c3
 go_wp2_with fail
 go_at_call 101
 refine (isPage_any _ _ _ _ _ _ _ _ _ _).mono ?_
 rintro e w2 ⟨rfl, hb2⟩
 rw [e2.out]
 have I2 := I1.step hb2
 clear I1 c0 c1 c2 c3 hb2
 have c0 := I2.box.c0
 have c1 := I2.box.c1
 have c2 := I2.box.c2
 have c3 := I2.box.c3
 obtain ⟨b, o, x, rfl, cx, hX⟩ := I2.zn.types.at_.at K (by omega)
 have HT2 : Hid (typeZ z a = x) := HT.out.trans hX.out
 have m0 : ∀ wx, Below w2.heap.size w2 wx → wx.cell? ⟨w.heap.size, 0, none⟩ = some (.int .i64 z.f) := fun wx h => keep c0 h
 have m1 : ∀ wx, Below w2.heap.size w2 wx → wx.cell? ⟨w.heap.size, 1, none⟩ = some (.int .i64 z.t) := fun wx h => keep c1 h
 have m2 : ∀ wx, Below w2.heap.size w2 wx → wx.cell? ⟨w.heap.size, 2, none⟩ = some (.slice fo fn fc) := fun wx h => keep c2 h
 have m3 : ∀ wx, Below w2.heap.size w2 wx → wx.cell? ⟨w.heap.size, 3, none⟩ = some (.slice (some ⟨b, o, none⟩) tn tc) := fun wx h => keep c3 h
 have m4 : ∀ wx, Below w2.heap.size w2 wx → wx.cell? ⟨b, o + K, none⟩ = some (.int .i64 x) := fun wx h => keep cx h
 have HG : Hid (∀ W, Below w2.heap.size w2 W → Calls Tryz.prog 102 #[.agg #[.int .i64 z.f, .int .i64 z.t, .slice fo fn fc, .slice (some ⟨b, o, none⟩) tn tc], .int .i64 a] W fun e w' => e = .returned (.int .i64 K) ∧ Below w2.heap.size w2 w') := fun W hS => by
  rw [← hK]
  refine (group_any W z.f z.t fo _ fn fc tn tc a n1 ha.1 (by omega)).mono ?_
  rintro e w' ⟨rfl, hb⟩
  exact ⟨rfl, hS.trans (hb.mono hS.size)⟩
 have S0 : Below w2.heap.size w2 w2 := Below.refl _ _
 have hB2 := I2.b
 clear HT hX hK I2 c0 c1 c2 c3 cx
 go_wp2_with fail
 go_region_held3 (fun wx => Below w2.heap.size w2 wx) (first | assumption | exact Below.drew (by assumption))
  (first
   | (go_at_call 102; refine (HG.out _ ?_).mono ?_; assumption; rintro e w3 ⟨rfl, hS3⟩))
 all_goals
  have hbb := hB2.trans (hS3.mono hB2.size)
  clear HG m0 m1 m2 m3 m4 S0
  go_wp2
  go_ret2
  exact ⟨by rw [HT2.out]; rfl, hbb⟩
theorem y_sliceHi {C : World → Prop} {L : List (Nat × Value)} {o : Oper} {x : Operand} {g n cap H : Nat} (ho : o.op = .slice 30 x none (some (.const (.int .i64 (H : Nat)))) none) (hx : ev L x = some (.slice (some ⟨g, 0, none⟩) n cap)) (hH : H ≤ cap) :
    YC Tryz.prog C L o (.slice (some ⟨g, 0, none⟩) H cap) := by
 intro ρ hρ wx _
 have h1 := hρ (.const (.int .i64 (H : Nat))) _ rfl
 have e1 : (Go.sizeOf 3).run Tryz.prog wx = .ok 1 wx := Tryz.sizeOf3 wx
 have e : (Instr.sliceAt 30 (.slice (some ⟨g, 0, none⟩) n cap) none (some (.int .i64 (H : Nat))) none).run Tryz.prog wx = .ok (.slice (some ⟨g, 0, none⟩) H cap) wx := by
  simp [Instr.sliceAt, Instr.slice, Instr.sliceBounds, Instr.sliceBound, run_under Tryz.underlying30, e1, go_sem, asIntOf, hH]
 simp [execOp, ho, hρ _ _ hx, h1, e, go_sem]
theorem app1_run (w : World) (ty : TypeId) (po : Option Addr) (pn : Nat) (ps : List Int) (p : Int) (gb : Nat) (hN : Nums w po pn ps) (hn : pn ≤ 300) (hb : w.heap[gb]? = some (.cells #[.int .i64 p] 3 (0, 0))) (hnil : po = none → pn = 0) :
    ∃ g' cap' W, (Builtin.append_ #[30, 30] ty #[.slice po pn pn, .slice (some ⟨gb, 0, none⟩) 1 1]).run Tryz.prog w = .ok (.slice (some ⟨g', 0, none⟩) (pn + 1) cap') W ∧
     W.ownsRow w.heap.size 3 1 (.slice (some ⟨g', 0, none⟩) (pn + 1) cap') (pn + 1) (vals (ps ++ [p])) ∧ Below w.heap.size w W ∧ w.heap.size ≤ g' := by
 obtain ⟨i1, hj, hy0, hy1, hy2⟩ := info_parts info_int
 have hlen := hN.len
 have hnews : ∀ j v, (vals [p])[j]? = some v → w.cell? ((⟨gb, 0, none⟩ : Addr).add j) = some v := by
  intro j v hjv
  rw [add_at, Nat.zero_add]
  simp only [World.cell?, hb]
  change ([Value.int .i64 p] : List Value)[j]? = some v at hjv
  simpa using hjv
 cases po with
 | none =>
  obtain rfl := hnil rfl
  have hl : ps = [] := List.eq_nil_of_length_eq_zero hlen
  subst hl
  obtain ⟨v', w1, hrun, hown, hgrow, _⟩ := run_append_own (P := Tryz.prog) w w.heap.size 30 ty 3 i1 (.int .i64 0) 1 8 Tryz.underlying30 hj hy0 hy1 hy2 rfl (by decide) (.slice none 0 0) 0 [] (World.ownsRow_nil _ _ _ _) ⟨gb, 0, none⟩ 1 1 (vals [p]) rfl hnews (vals_oneCell _) (by unfold maxLen; omega) (by omega) (Nat.le_refl _)
  rw [List.nil_append, Nat.zero_add] at hown
  have hb' : Below w.heap.size w w1 := (Below.refl _ _).grown hgrow (Nat.le_refl _) (by simp [Value.ownBlock])
  rcases hown.2 with ⟨e1, e2⟩ | ⟨g, cap', cur, e1, hB, _⟩
  ·cases e2
  subst e1
  exact ⟨g, cap', w1, hrun, hown, hb', hB⟩
 | some a =>
  have hold : ∀ j v, (vals ps)[j]? = some v → w.cell? (a.add j) = some v := by
   by_cases h0 : 0 < ps.length
   ·obtain ⟨a', he, hs⟩ := src_of hN.at_ h0
    cases he
    exact hs
   intro j v hj
   have : vals ps = [] := List.eq_nil_of_length_eq_zero (by rw [length_vals]; omega)
   rw [this] at hj
   simp at hj
  obtain ⟨cap', W, cur, hrun, R, ht, hc, hbW⟩ := grow_some (P := Tryz.prog) w 30 ty 3 i1 (.int .i64 0) 1 Tryz.underlying30 hj hy0 hy1 rfl a pn pn (vals ps) (by rw [length_vals]; omega) hold ⟨gb, 0, none⟩ 1 1 (vals [p]) rfl hnews (by omega) (by unfold maxLen; omega) (by rw [hy2]; omega)
  exact ⟨w.heap.size, cap', W, hrun, R.owns (Nat.le_refl _) hc (by rw [vals_append]; exact ht), hbW, Nat.le_refl _⟩
def keepH (H : Hp) (cpu p : Int) : Hp :=
 if 8 < (lsPages H.lists ⟨cpu, (zIdx H p : Nat), typeZ (H.zones.getD (zIdx H p) ⟨0, 0, [], []⟩) p, []⟩ ++ [p]).length then
  { backs H ((lsPages H.lists ⟨cpu, (zIdx H p : Nat), typeZ (H.zones.getD (zIdx H p) ⟨0, 0, [], []⟩) p, []⟩ ++ [p]).take 4) with
   lists := setLs H.lists ⟨cpu, (zIdx H p : Nat), typeZ (H.zones.getD (zIdx H p) ⟨0, 0, [], []⟩) p, (lsPages H.lists ⟨cpu, (zIdx H p : Nat), typeZ (H.zones.getD (zIdx H p) ⟨0, 0, [], []⟩) p, []⟩ ++ [p]).drop 4⟩ }
 else { H with lists := setLs H.lists ⟨cpu, (zIdx H p : Nat), typeZ (H.zones.getD (zIdx H p) ⟨0, 0, [], []⟩) p, lsPages H.lists ⟨cpu, (zIdx H p : Nat), typeZ (H.zones.getD (zIdx H p) ⟨0, 0, [], []⟩) p, []⟩ ++ [p]⟩ }
structure HMid (H : Hp) : Prop where
 zs : ZsOk H
 ls : LssOk H
 cpus : H.cpus ≤ 4
 cnt : ∀ p, zcnt H p + Kit.cnt ((H.lists.flatMap (·.pages)).map pgB) p ≤ 1
theorem HMid.of {H : Hp} (h : HMay H) : HMid H := ⟨h.zs, h.ls, h.cpus.2, fun p => by have := h.cntLe p; omega⟩
theorem LssOk.page {H : Hp} (hz : ZsOk H) (hl : LssOk H) {p : Int} (hp : p ∈ H.lists.flatMap (·.pages)) : 0 ≤ p ∧ p < 256 := by
 obtain ⟨L, hL, hp⟩ := List.mem_flatMap.1 hp
 obtain ⟨i, hi, rfl⟩ := List.getElem_of_mem hL
 obtain ⟨j, hj, rfl⟩ := List.getElem_of_mem hp
 have hk := hl.ok i hi
 rw [List.getD_eq_getElem?_getD, List.getElem?_eq_getElem hi] at hk
 simp only [Option.getD_some] at hk
 have hq := hk.p j hj
 rw [List.getD_eq_getElem?_getD (l := (H.lists[i]).pages), List.getElem?_eq_getElem hj] at hq
 simp only [Option.getD_some] at hq
 have hz' := hk.z
 have z0 := hz.m0.new
 have z1 := hz.m1.new
 unfold newOk at z0 z1
 have f0 := hz.f0
 have f1 := hz.f1
 have t1 := hz.t1
 rcases (show (H.lists[i]).z = 0 ∨ (H.lists[i]).z = 1 by omega) with e | e <;> rw [e] at hq
 ·have hq' : (H.zones.getD 0 ⟨0, 0, [], []⟩).f ≤ (H.lists[i]).pages[j] ∧ (H.lists[i]).pages[j] < (H.zones.getD 0 ⟨0, 0, [], []⟩).t := hq
  omega
 have hq' : (H.zones.getD 1 ⟨0, 0, [], []⟩).f ≤ (H.lists[i]).pages[j] ∧ (H.lists[i]).pages[j] < (H.zones.getD 1 ⟨0, 0, [], []⟩).t := hq
 omega
theorem cnt_flat {ls : List Ls} {L : Ls} (h : L ∈ ls) (p : Int) : Kit.cnt (L.pages.map pgB) p ≤ Kit.cnt ((ls.flatMap (·.pages)).map pgB) p := by
 induction ls with
 | nil => simp at h
 | cons a ls ih =>
  rw [List.flatMap_cons, List.map_append, cnt_append]
  rcases List.mem_cons.1 h with rfl | h
  ·omega
  have := ih h; omega
theorem HMid.four {H : Hp} (h : HMid H) {L : Ls} (hL : L ∈ H.lists) (n : Nat) : CanBacks H (L.pages.take n) ∧ ZsOk (backs H (L.pages.take n)) ∧ ∀ p, zcnt (backs H (L.pages.take n)) p = zcnt H p + Kit.cnt ((L.pages.take n).map pgB) p := by
 refine backs_ok _ H h.zs (fun p hp => LssOk.page h.zs h.ls (List.mem_flatMap.2 ⟨L, hL, List.mem_of_mem_take hp⟩)) (fun p => ?_)
 have h1 := h.cnt p
 have h2 := cnt_flat hL p
 have h3 : Kit.cnt (L.pages.map pgB) p = Kit.cnt ((L.pages.take n).map pgB) p + Kit.cnt ((L.pages.drop n).map pgB) p := by
  conv => lhs; rw [← List.take_append_drop n L.pages]
  rw [List.map_append, cnt_append]
 omega
theorem zone_in {H : Hp} (h : ZsOk H) {p : Int} (h0 : 0 ≤ p) (h1 : p < 256) : ZMay (H.zones.getD (zIdx H p) ⟨0, 0, [], []⟩) ∧ (H.zones.getD (zIdx H p) ⟨0, 0, [], []⟩).f ≤ p ∧ p ≤ (H.zones.getD (zIdx H p) ⟨0, 0, [], []⟩).t - 1 := by
 have f0 := h.f0
 have f1 := h.f1
 have t1 := h.t1
 unfold zIdx
 split
 ·exact ⟨h.m0, by omega, by omega⟩
 exact ⟨h.m1, by omega, by omega⟩
theorem pKeep_f (w : World) (B gz gl hbk : Nat) (y : Hx) (cpu p : Int) (i zI : Nat) (tI : Int) (rhbk : w.heap[hbk]? = some (.cells #[.slice y.zo y.zn y.zc, .slice y.mo y.mn y.mc, .int .i64 y.cpus, .slice y.lo y.ln y.lc, .slice y.vo y.vn y.vc] 34 (0, 0))) (HY : HZ w B gz y) (ol : w.ownsRow B 69 4 (.slice y.lo y.ln y.lc) y.ln (c4 (y.ls.map Lc.q))) (el : ∀ a, y.lo = some a → a.block = gl) (al : AwayL gl y) (ah : AwayL hbk y)
    (_hhz : hbk ≠ gz) (hhl : hbk ≠ gl) (_hzl : gz ≠ gl) (hgw : gl < w.heap.size) (_hzw : gz < w.heap.size) (_hcap : ∀ l ∈ y.ls, l.pc = l.pn) (hM : HMid y.hp) (hp : 0 ≤ p ∧ p < 256) (hB : B ≤ w.heap.size) (hzI : zIdx y.hp p = zI) (htI : typeZ (y.hp.zones.getD zI ⟨0, 0, [], []⟩) p = tI) (hA : AtL y.hp.lists ⟨cpu, (zI : Nat), tI, []⟩ i false) :
    Calls Tryz.prog 62 #[.pointer (some ⟨hbk, 0, none⟩), .int .i64 cpu, .int .i64 p] w fun e w' => e = .returned (.int .i64 0) ∧ ∃ y2 : Hx, w'.heap[hbk]? = some (.cells #[.slice y2.zo y2.zn y2.zc, .slice y2.mo y2.mn y2.mc, .int .i64 y2.cpus, .slice y2.lo y2.ln y2.lc, .slice y2.vo y2.vn y2.vc] 34 (0, 0)) ∧ y2.At w' ∧ y2.hp = keepH y.hp cpu p ∧ Ex (fun k => k = gz ∨ k = gl ∨ k = hbk) w w' ∧ (∀ b, b < w.heap.size → b ≠ gl → Away b y → Away b y2) ∧ y2.zo = y.zo := by
 have hlw := row_lt rhbk
 have hll : y.hp.lists.length = y.ln := by show (y.ls.map _).length = _; rw [List.length_map]; exact HY.at_.lists.len
 have hfew := lists_few hM.ls hM.cpus
 have hzn : y.zn = 2 := by have e : y.hp.zones.length = y.zs.length := (by show (y.zs.map _).length = _; rw [List.length_map]); have := hM.zs.n; have := HY.at_.zones.len; omega
 have hzlt : zI < 2 := by rw [← hzI]; exact zIdx_lt _ _
 have hord : RiseL y.ls := fun k h0 h1 => by have := hM.ls.ord k h0 (by rw [hll]; have := HY.at_.lists.len; omega); rw [show y.hp.lists = y.ls.map (·.l) from rfl, getD_l, getD_l] at this; exact this
 have hrp : RiseP y.hp.lists := riseP_of hord
 have hil := hA.1
 have B0 := Below.refl w.heap.size w
 refine sx_enter (args := [_, _, _]) 76 Tryz.func62 rfl rfl rfl ?_
 refine vS (vR (vla (h:=vW (vS (vR (vlm (h:=vli (h:=vl5 (rowq rhbk) (h:=vlm (h:=vlc (by have e := pZoneOf_c _ y p (HY.at_.below B0) hzn; rw [hzI] at e; exact e) (h:=?_))))))))))); intro W2 hb1; replace B0 := Below.next B0 hb1; replace rhbk := row_next rhbk hb1
 refine vla (h:=vW (vS (vR (vlm (h:=vli (h:=vlf (h:=vl1 (rowq rhbk) (h:=vlm (h:=?_)))))))))
 obtain ⟨gq, oq, zq, foq, fnq, fcq, toq, tnq, tcq, haq, c0q, c1q, c2q, c3q, hatq, hXq⟩ := HY.at_.zones.at (zI) (by omega)
 replace c0q := St.of c0q; replace c1q := St.of c1q; replace c2q := St.of c2q; replace c3q := St.of c3q
 have hqe : y.hp.zones.getD zI ⟨0, 0, [], []⟩ = zq := by rw [hp_zone, hXq.out]
 have hzin := zone_in hM.zs hp.1 hp.2
 intro A f
 rw [hzI, hqe] at hzin
 have htq : typeZ zq p = tI := by rw [← hqe]; exact htI
 revert A; refine vlx (h:=vld (y_loadN (vs := [_, _, _, _]) rfl rfl (ag rfl) rfl ⟨(by first | assumption | exact St.q c0q B0 | exact St.q c1q B0 | exact St.q c2q B0 | exact St.q c3q B0), (by first | assumption | exact St.q c0q B0 | exact St.q c1q B0 | exact St.q c2q B0 | exact St.q c3q B0), (by first | assumption | exact St.q c0q B0 | exact St.q c1q B0 | exact St.q c2q B0 | exact St.q c3q B0), (by first | assumption | exact St.q c0q B0 | exact St.q c1q B0 | exact St.q c2q B0 | exact St.q c3q B0), trivial⟩) (h:=vlm (h:=vlc (by have e := zTypeAt_ok _ foq fnq fcq toq tnq tcq zq p (hatq.below B0) hzin.1 hzin.2; rw [htq] at e; exact e) (h:=?_)))); intro W4 hb3; replace B0 := Below.next B0 hb3; replace rhbk := row_next rhbk hb3
 refine vlm (h:=vle (h:=vle (h:=vla (h:=vla (h:=vW (vS (vS (vR (vlm (h:=vlb (y_neq rfl rfl rfl) (h:=?_) (g:=?_)))))))))))
 ·intro c5; exfalso; omega
 intro c5
 refine vW (vD (h:=vK (vT (vS (vR (vlm (h:=vlm (h:=vlm (h:=vld (y_build #[.int .i64 cpu, .int .i64 (zI : Nat), .int .i64 tI, .slice none 0 0] rfl rfl (by kernel_rfl)) (h:=?_)))))))))); intro A f
 refine l_as (z := .agg #[.int .i64 0, .int .i64 0, .int .i64 0, .slice none 0 0]) f rfl rfl rfl rfl (by kernel_rfl) rfl rfl (fun _ => rfl) (fun _ => rfl) rfl (by intro u hu; simp [Value.cells] at hu; rcases hu with rfl | rfl | rfl | rfl <;> rfl) ?_; clear f A; intro b6 W7 eb6 hb8 rb6 A f
 dsimp only [Value.cells] at rb6
 have hpb6 := hb8
 have o_hbk_b6 : hbk < b6 := by have := row_lt rhbk; omega
 have z_B0_b6 := B0.size; rw [eb6] at z_B0_b6
 replace B0 := Below.next B0 hb8; replace rhbk := row_next rhbk hb8
 revert A; refine vW (vS (vR (vla (h:=vW (vS (vS ?_)))))); intro A f
 refine sx_quiet (by kernel_rfl) (by kernel_rfl) ?_
 revert A; refine vqm (h:=vqi (h:=vq5 (rowq rhbk) (h:=vq4 (rowq rb6) (h:=vqc (fun wx hx => (pListAt_c wx y ⟨cpu, (zI : Nat), tI, []⟩ (.slice none 0 0) (HY.at_.below (Below.next B0 hx)) hord hA).mono (fun e w1 h1 => ⟨h1.1, Below.next hx h1.2⟩)) (h:=vqm (h:=vqe (h:=vqe (h:=vqa (h:=vqa (h:=vQ ?_)))))))))); intro W10 hb9; replace B0 := Below.next B0 hb9; replace rhbk := row_next rhbk hb9; replace rb6 := row_next rb6 hb9
 refine vT (vS (vR (vlm (h:=vW (vD (h:=vK (vT (vS (vR (vlm (h:=vlm (h:=?_))))))))))))
 obtain ⟨gb, hgb⟩ : ∃ g, g = W10.heap.size := ⟨_, rfl⟩
 intro A f
 refine l_opR (R := fun v W => v = .slice (some ⟨gb, 0, none⟩) 1 1 ∧ Below W10.heap.size W10 W ∧ W.heap[gb]? = some (.cells #[.int .i64 p] 3 (0, 0))) f rfl rfl rfl ⟨_, _, bs_exec f rfl rfl (bs_int1 _ _), by rw [hgb], (Below.refl _ _).alloc (Nat.le_refl _) _, by rw [hgb]; show (Array.push _ _)[_]? = _; rw [Array.getElem?_push, if_pos rfl]⟩ ?_
 clear f A
 rintro _ W11 ⟨rfl, hb12, rgb⟩ A f
 replace B0 := Below.next B0 hb12; replace rhbk := row_next rhbk hb12; replace rb6 := row_next rb6 hb12
 obtain ⟨s9, hs9⟩ : ∃ n, n = W11.heap.size := ⟨_, rfl⟩
 have hsw := B0.size
 have l9_hbk := row_lt rhbk
 have l9_b6 := row_lt rb6
 refine l_opR (R := fun v W => ∃ gp cp, v = .slice (some ⟨gp, 0, none⟩) (0 + 1) cp ∧ W.ownsRow s9 3 1 (.slice (some ⟨gp, 0, none⟩) (0 + 1) cp) (0 + 1) (vals ([] ++ [p])) ∧ Below W11.heap.size W11 W ∧ s9 ≤ gp) f rfl rfl rfl (by obtain ⟨g1, c1, W1, h1, h2, h3, h4⟩ := app1_run W11 _ none 0 [] p gb (Nums.nil _) (by omega) rgb (fun _ => rfl); rw [hs9]; exact ⟨_, W1, append_exec f rfl rfl rfl h1, g1, c1, rfl, h2, h3, h4⟩) ?_
 clear f A
 rintro _ W13 ⟨gp, cp, rfl, own9, hb14, hgp⟩ A f
 replace B0 := Below.next B0 hb14; replace rhbk := row_next rhbk hb14; replace rb6 := row_next rb6 hb14
 have hgw9 : gp < W13.heap.size := (owns_blk own9 _ rfl).2.1
 have hc9 := owns_cap own9
 revert A; refine vla (h:=vW (vS (vS (vR (vlm (h:=vlz (h:=vlb (y_gtr rfl rfl rfl) (h:=?_) (g:=?_))))))))
 ·intro c15; exfalso; omega
 intro c15
 refine vW (vD (h:=vK (vT (vS (vR (vlm (h:=vl4 (rowq rb6) (h:=vlm (h:=?_)))))))))
 have hlz : 0 < y.zs.length := by have := HY.at_.zones.len; omega
 have hAt := HY.at_.below B0
 replace ol := owns_below ol B0 (Nat.le_refl _)
 have hex := Ex.of_below (P := fun k => k = gz ∨ k = gl ∨ k = hbk) B0
 have hsz := B0.size
 have al2 := al
 have ah2 := ah
 have hN5 : Nums W13 (some ⟨gp, 0, none⟩) (0 + 1) ([] ++ [p]) := nums_of_owns own9 (by omega)
 intro A f
 refine l_call f rfl rfl rfl (IsCall.mk' (cap := []) rfl rfl rfl) (pl rfl) (pSetList_f _ B gl hbk y ⟨cpu, (zI : Nat), tI, ([] ++ [p])⟩ (.slice none 0 0) (some ⟨gp, 0, none⟩) (0 + 1) cp i rhbk ol el hAt al2 ah2 hhl (by omega) hord hN5 (fun _ a ha => by cases ha; dsimp only; omega) (by omega) (by show y.ln ≤ 300; omega) hA) ?_
 clear f A
 rintro _ W16 ⟨rfl, ls2, lo2, ln2, lc2, rh2, hAt2, hls2, hbu, hlo2, hmem2⟩
 refine ⟨_, rfl, ?_⟩
 refine vW (vS (vR (vla (h:=vW (vE ?_))))); intro A f
 refine x_ret1 f rfl rfl ?_
 have hL : lsPages y.hp.lists ⟨cpu, (zI : Nat), tI, []⟩ = [] := by rw [lsPages_at hrp hA]; rfl
 refine ⟨rfl, y.withL ls2 lo2 ln2 lc2, rh2, hAt2, ?_, hex.trans (Ex.of_bu2 hbu (.inr (.inr rfl)) (.inr (.inl rfl))), fun b hb hbl ha => ?_, rfl⟩
 ·unfold keepH
  rw [hzI, htI, hL, if_neg (by rw [List.length_append]; simp only [List.length_cons, List.length_nil]; omega)]
  show ({ y.hp with lists := ls2.map (·.l) } : Hp) = _
  rw [hls2]
 exact away_withL ha (fun _ a h => by rcases hlo2 a h with e | e <;> omega) (fun l hl => by rcases hmem2 l hl with h | rfl; (exact .inl h); exact .inr (fun a h => by cases h; dsimp only; omega))
theorem pKeep_t (w : World) (B gz gl hbk : Nat) (y : Hx) (cpu p : Int) (i zI : Nat) (tI : Int) (rhbk : w.heap[hbk]? = some (.cells #[.slice y.zo y.zn y.zc, .slice y.mo y.mn y.mc, .int .i64 y.cpus, .slice y.lo y.ln y.lc, .slice y.vo y.vn y.vc] 34 (0, 0))) (HY : HZ w B gz y) (ol : w.ownsRow B 69 4 (.slice y.lo y.ln y.lc) y.ln (c4 (y.ls.map Lc.q))) (el : ∀ a, y.lo = some a → a.block = gl) (al : AwayL gl y) (ah : AwayL hbk y)
    (hhz : hbk ≠ gz) (hhl : hbk ≠ gl) (hzl : gz ≠ gl) (hgw : gl < w.heap.size) (hzw : gz < w.heap.size) (hcap : ∀ l ∈ y.ls, l.pc = l.pn) (hM : HMid y.hp) (hp : 0 ≤ p ∧ p < 256) (hB : B ≤ w.heap.size) (hzI : zIdx y.hp p = zI) (htI : typeZ (y.hp.zones.getD zI ⟨0, 0, [], []⟩) p = tI) (hA : AtL y.hp.lists ⟨cpu, (zI : Nat), tI, []⟩ i true) :
    Calls Tryz.prog 62 #[.pointer (some ⟨hbk, 0, none⟩), .int .i64 cpu, .int .i64 p] w fun e w' => e = .returned (.int .i64 0) ∧ ∃ y2 : Hx, w'.heap[hbk]? = some (.cells #[.slice y2.zo y2.zn y2.zc, .slice y2.mo y2.mn y2.mc, .int .i64 y2.cpus, .slice y2.lo y2.ln y2.lc, .slice y2.vo y2.vn y2.vc] 34 (0, 0)) ∧ y2.At w' ∧ y2.hp = keepH y.hp cpu p ∧ Ex (fun k => k = gz ∨ k = gl ∨ k = hbk) w w' ∧ (∀ b, b < w.heap.size → b ≠ gl → Away b y → Away b y2) ∧ y2.zo = y.zo := by
 have hlw := row_lt rhbk
 have hll : y.hp.lists.length = y.ln := by show (y.ls.map _).length = _; rw [List.length_map]; exact HY.at_.lists.len
 have hfew := lists_few hM.ls hM.cpus
 have hzn : y.zn = 2 := by have e : y.hp.zones.length = y.zs.length := (by show (y.zs.map _).length = _; rw [List.length_map]); have := hM.zs.n; have := HY.at_.zones.len; omega
 have hzlt : zI < 2 := by rw [← hzI]; exact zIdx_lt _ _
 have hord : RiseL y.ls := fun k h0 h1 => by have := hM.ls.ord k h0 (by rw [hll]; have := HY.at_.lists.len; omega); rw [show y.hp.lists = y.ls.map (·.l) from rfl, getD_l, getD_l] at this; exact this
 have hrp : RiseP y.hp.lists := riseP_of hord
 have hib : i < y.ln := by have := (hA.2.2.2.1 rfl).1; omega
 have B0 := Below.refl w.heap.size w
 refine sx_enter (args := [_, _, _]) 76 Tryz.func62 rfl rfl rfl ?_
 refine vS (vR (vla (h:=vW (vS (vR (vlm (h:=vli (h:=vl5 (rowq rhbk) (h:=vlm (h:=vlc (by have e := pZoneOf_c _ y p (HY.at_.below B0) hzn; rw [hzI] at e; exact e) (h:=?_))))))))))); intro W2 hb1; replace B0 := Below.next B0 hb1; replace rhbk := row_next rhbk hb1
 refine vla (h:=vW (vS (vR (vlm (h:=vli (h:=vlf (h:=vl1 (rowq rhbk) (h:=vlm (h:=?_)))))))))
 obtain ⟨gq, oq, zq, foq, fnq, fcq, toq, tnq, tcq, haq, c0q, c1q, c2q, c3q, hatq, hXq⟩ := HY.at_.zones.at (zI) (by omega)
 replace c0q := St.of c0q; replace c1q := St.of c1q; replace c2q := St.of c2q; replace c3q := St.of c3q
 have hqe : y.hp.zones.getD zI ⟨0, 0, [], []⟩ = zq := by rw [hp_zone, hXq.out]
 have hzin := zone_in hM.zs hp.1 hp.2
 intro A f
 rw [hzI, hqe] at hzin
 have htq : typeZ zq p = tI := by rw [← hqe]; exact htI
 revert A; refine vlx (h:=vld (y_loadN (vs := [_, _, _, _]) rfl rfl (ag rfl) rfl ⟨(by first | assumption | exact St.q c0q B0 | exact St.q c1q B0 | exact St.q c2q B0 | exact St.q c3q B0), (by first | assumption | exact St.q c0q B0 | exact St.q c1q B0 | exact St.q c2q B0 | exact St.q c3q B0), (by first | assumption | exact St.q c0q B0 | exact St.q c1q B0 | exact St.q c2q B0 | exact St.q c3q B0), (by first | assumption | exact St.q c0q B0 | exact St.q c1q B0 | exact St.q c2q B0 | exact St.q c3q B0), trivial⟩) (h:=vlm (h:=vlc (by have e := zTypeAt_ok _ foq fnq fcq toq tnq tcq zq p (hatq.below B0) hzin.1 hzin.2; rw [htq] at e; exact e) (h:=?_)))); intro W4 hb3; replace B0 := Below.next B0 hb3; replace rhbk := row_next rhbk hb3
 refine vlm (h:=vle (h:=vle (h:=vla (h:=vla (h:=vW (vS (vS (vR (vlm (h:=vlb (y_neq rfl rfl rfl) (h:=?_) (g:=?_)))))))))))
 ·intro c5; exfalso; omega
 intro c5
 refine vW (vD (h:=vK (vT (vS (vR (vlm (h:=vlm (h:=vlm (h:=vld (y_build #[.int .i64 cpu, .int .i64 (zI : Nat), .int .i64 tI, .slice none 0 0] rfl rfl (by kernel_rfl)) (h:=?_)))))))))); intro A f
 refine l_as (z := .agg #[.int .i64 0, .int .i64 0, .int .i64 0, .slice none 0 0]) f rfl rfl rfl rfl (by kernel_rfl) rfl rfl (fun _ => rfl) (fun _ => rfl) rfl (by intro u hu; simp [Value.cells] at hu; rcases hu with rfl | rfl | rfl | rfl <;> rfl) ?_; clear f A; intro b6 W7 eb6 hb8 rb6 A f
 dsimp only [Value.cells] at rb6
 have hpb6 := hb8
 have o_hbk_b6 : hbk < b6 := by have := row_lt rhbk; omega
 have z_B0_b6 := B0.size; rw [eb6] at z_B0_b6
 replace B0 := Below.next B0 hb8; replace rhbk := row_next rhbk hb8
 revert A; refine vW (vS (vR (vla (h:=vW (vS (vS ?_)))))); intro A f
 refine sx_quiet (by kernel_rfl) (by kernel_rfl) ?_
 revert A; refine vqm (h:=vqi (h:=vq5 (rowq rhbk) (h:=vq4 (rowq rb6) (h:=vqc (fun wx hx => (pListAt_c wx y ⟨cpu, (zI : Nat), tI, []⟩ (.slice none 0 0) (HY.at_.below (Below.next B0 hx)) hord hA).mono (fun e w1 h1 => ⟨h1.1, Below.next hx h1.2⟩)) (h:=vqm (h:=vqe (h:=vqe (h:=vqa (h:=vqa (h:=vQ ?_)))))))))); intro W10 hb9; replace B0 := Below.next B0 hb9; replace rhbk := row_next rhbk hb9; replace rb6 := row_next rb6 hb9
 refine vT (vS (vR (vlm (h:=vW (vC (h:=vR (vlm (h:=vli (h:=vlf (h:=vl1 (rowq rhbk) (h:=vlm (h:=?_))))))))))))
 obtain ⟨gk, ok, lck, lzk, ltk, lpk, pok, pnk, pck, hak, c0k, c1k, c2k, c3k, hatk, hXk⟩ := HY.at_.lists.at (i) (by omega)
 replace c0k := St.of c0k; replace c1k := St.of c1k; replace c2k := St.of c2k; replace c3k := St.of c3k
 have hke : y.ls.getD i .zero = ⟨⟨lck, lzk, ltk, lpk⟩, pok, pnk, pck⟩ := hXk.out
 have hmk : (⟨⟨lck, lzk, ltk, lpk⟩, pok, pnk, pck⟩ : Lc) ∈ y.ls := by rw [← hke]; exact getD_mem (by have := HY.at_.lists.len; omega)
 obtain rfl : pnk = pck := (hcap _ hmk).symm
 have hmL : (⟨lck, lzk, ltk, lpk⟩ : Ls) ∈ y.hp.lists := List.mem_map.2 ⟨_, hmk, rfl⟩
 have hk8 : pnk ≤ 8 := by have h1 : lpk.length ≤ 8 := (lss_mem hM.ls hmL).n.2; have := hatk.len; omega
 have hkl := hatk.len
 refine vlx (h:=vlf (h:=vld (y_load1 rfl rfl (ag rfl) (by first | assumption | exact St.q c0q B0 | exact St.q c1q B0 | exact St.q c2q B0 | exact St.q c3q B0 | exact St.q c0k B0 | exact St.q c1k B0 | exact St.q c2k B0 | exact St.q c3k B0)) (h:=vla (h:=vW (vS (vR (vlm (h:=vlm (h:=?_)))))))))
 obtain ⟨gb, hgb⟩ : ∃ g, g = W10.heap.size := ⟨_, rfl⟩
 intro A f
 refine l_opR (R := fun v W => v = .slice (some ⟨gb, 0, none⟩) 1 1 ∧ Below W10.heap.size W10 W ∧ W.heap[gb]? = some (.cells #[.int .i64 p] 3 (0, 0))) f rfl rfl rfl ⟨_, _, bs_exec f rfl rfl (bs_int1 _ _), by rw [hgb], (Below.refl _ _).alloc (Nat.le_refl _) _, by rw [hgb]; show (Array.push _ _)[_]? = _; rw [Array.getElem?_push, if_pos rfl]⟩ ?_
 clear f A
 rintro _ W11 ⟨rfl, hb12, rgb⟩ A f
 replace B0 := Below.next B0 hb12; replace rhbk := row_next rhbk hb12; replace rb6 := row_next rb6 hb12
 obtain ⟨s9, hs9⟩ : ∃ n, n = W11.heap.size := ⟨_, rfl⟩
 have hsw := B0.size
 have l9_hbk := row_lt rhbk
 have l9_b6 := row_lt rb6
 refine l_opR (R := fun v W => ∃ gp cp, v = .slice (some ⟨gp, 0, none⟩) (pnk + 1) cp ∧ W.ownsRow s9 3 1 (.slice (some ⟨gp, 0, none⟩) (pnk + 1) cp) (pnk + 1) (vals (lpk ++ [p])) ∧ Below W11.heap.size W11 W ∧ s9 ≤ gp) f rfl rfl rfl (by obtain ⟨g1, c1, W1, h1, h2, h3, h4⟩ := app1_run W11 _ pok pnk lpk p gb (hatk.below B0) (by omega) rgb (fun e => nums_nil (by rw [← e]; exact hatk)); rw [hs9]; exact ⟨_, W1, append_exec f rfl rfl rfl h1, g1, c1, rfl, h2, h3, h4⟩) ?_
 clear f A
 rintro _ W13 ⟨gp, cp, rfl, own9, hb14, hgp⟩ A f
 replace B0 := Below.next B0 hb14; replace rhbk := row_next rhbk hb14; replace rb6 := row_next rb6 hb14
 have hgw9 : gp < W13.heap.size := (owns_blk own9 _ rfl).2.1
 have hc9 := owns_cap own9
 revert A; refine vla (h:=vW (vS (vS (vR (vlm (h:=vlz (h:=vlb (y_gtr rfl rfl rfl) (h:=?_) (g:=?_))))))))
 ·intro c15
  refine vW (vC (h:=vS (vS (vR (vlm (h:=vlm (h:=vld (y_sliceHi (H := 4) rfl rfl (by omega)) (h:=?_))))))))
  obtain rfl : pnk = 8 := by omega
  have hlz : 0 < y.zs.length := by have := HY.at_.zones.len; omega
  have e4 : (lpk ++ [p]).take 4 = lpk.take 4 := by rw [List.take_append_of_le_length (by omega)]
  have hcan : CanBacks y.hp ((lpk ++ [p]).take 4) := by rw [e4]; exact (hM.four hmL 4).1
  have hN4 : Nums W13 (some ⟨gp, 0, none⟩) 4 ((lpk ++ [p]).take 4) := nums_take (nums_of_owns own9 (by omega)) (by omega)
  intro A f
  refine l_call f rfl rfl rfl (IsCall.mk' (cap := []) rfl rfl rfl) (pl rfl) (pBackAllF_ok _ B gz hbk y (some ⟨gp, 0, none⟩) 4 cp _ rhbk (HY.below B0) hhz hN4 (fun _ a ha => by cases ha; dsimp only; omega) hcan) ?_
  clear f A
  rintro _ W16 ⟨rfl, zs, hzs, HY2, hbt, haf⟩
  refine ⟨_, rfl, ?_⟩
  intro A f
  have lb10 := row_lt rb6
  replace rhbk := But.row hbt rhbk hhz
  replace rb6 := But.row hbt rb6 (by omega)
  replace own9 := owns_butN own9 hbt (fun a ha => by cases ha; dsimp only; omega)
  replace ol := owns_butN (owns_below ol B0 (Nat.le_refl _)) hbt (fun a ha => by have := el a ha; omega)
  have hex := (Ex.of_below (P := fun k => k = gz ∨ k = gl ∨ k = hbk) B0).trans (Ex.of_but hbt (.inl rfl))
  have hsB := B0.size
  have hsb := hbt.size
  have hr2 := HRest.of HY2.at_
  have af9 : AwayL gp (y.withZ zs) := awayL_withZ (awayL_old HY.at_ (by omega)) (haf gp hgw9 (awayF_old HY.at_ (by omega))) hlz
  have al2 : AwayL gl (y.withZ zs) := awayL_withZ al (haf gl (by omega) al.toF) hlz
  have ah2 : AwayL hbk (y.withZ zs) := awayL_withZ ah (haf hbk (by have := row_lt rhbk; omega) ah.toF) hlz
  revert A; refine vla (h:=vW (vS (vR (vlm (h:=vlb (y_neq rfl rfl rfl) (h:=?_) (g:=?_))))))
  ·intro c17; exfalso; omega
  intro c17
  refine vW (vD (h:=vK (vT (vR (vlm (h:=?_)))))); intro A f
  refine l_call f rfl rfl rfl (IsCall.mk' (cap := []) rfl rfl rfl) (pl rfl) (iDel4_any _ s9 gp cp (lpk ++ [p]) own9) ?_
  clear f A
  rintro _ W18 ⟨rfl, own5, hb19⟩
  refine ⟨_, rfl, ?_⟩
  intro A f
  replace rhbk := But.row hb19 rhbk (by omega)
  replace rb6 := But.row hb19 rb6 (by omega)
  replace ol := owns_butN ol hb19 (fun a ha => by have := el a ha; omega)
  replace hex := hex.new hb19 (by omega)
  replace hr2 := hr2.but af9 hb19
  revert A; refine vla (h:=vW (vS (vR (vlm (h:=vl4 (rowq rb6) (h:=vlm (h:=?_)))))))
  have hAt : (y.withZ zs).At W18 := at_withL hr2 ol HY.at_.lists.reach hr2.pages
  have hsz := hex.size
  have hN5 : Nums W18 (some ⟨gp, 0, none⟩) 5 ((lpk ++ [p]).drop 4) := nums_of_owns own5 (by omega)
  intro A f
  refine l_call f rfl rfl rfl (IsCall.mk' (cap := []) rfl rfl rfl) (pl rfl) (pSetList_t _ B gl hbk (y.withZ zs) ⟨cpu, (zI : Nat), tI, ((lpk ++ [p]).drop 4)⟩ (.slice none 0 0) (some ⟨gp, 0, none⟩) 5 cp i rhbk ol el hAt al2 ah2 hhl (by omega) hord hN5 (fun _ a ha => by cases ha; dsimp only; omega) (by omega) (by show y.ln ≤ 300; omega) (by show i < y.ln; omega) hA) ?_
  clear f A
  rintro _ W20 ⟨rfl, ls2, lo2, ln2, lc2, rh2, hAt2, hls2, hbu, hlo2, hmem2⟩
  refine ⟨_, rfl, ?_⟩
  refine vW (vS (vR (vla (h:=vW (vE ?_))))); intro A f
  refine x_ret1 f rfl rfl ?_
  have hL : lsPages y.hp.lists ⟨cpu, (zI : Nat), tI, []⟩ = lpk := by rw [lsPages_at hrp hA]; rw [if_pos rfl]; show ((List.map (fun x : Lc => x.l) y.ls).getD i Ls.zero).pages = lpk; rw [getD_l, hke]
  refine ⟨rfl, (y.withZ zs).withL ls2 lo2 ln2 lc2, rh2, hAt2, ?_, hex.trans (Ex.of_bu2 hbu (.inr (.inr rfl)) (.inr (.inl rfl))), fun b hb hbl ha => ?_, rfl⟩
  ·unfold keepH
   rw [hzI, htI, hL, if_pos (by rw [List.length_append]; simp only [List.length_cons, List.length_nil]; omega)]
   show ({ (y.withZ zs).hp with lists := ls2.map (·.l) } : Hp) = _
   rw [hzs, hls2]
   rfl
  exact away_withL (awayF_away ha (haf b (by omega) ⟨ha.f, ha.t⟩)) (fun _ a h => by rcases hlo2 a h with e | e <;> omega) (fun l hl => by rcases hmem2 l hl with h | rfl; (exact .inl h); exact .inr (fun a h => by cases h; dsimp only; omega))
 intro c15
 refine vW (vD (h:=vK (vT (vS (vR (vlm (h:=vl4 (rowq rb6) (h:=vlm (h:=?_)))))))))
 have hlz : 0 < y.zs.length := by have := HY.at_.zones.len; omega
 have hAt := HY.at_.below B0
 replace ol := owns_below ol B0 (Nat.le_refl _)
 have hex := Ex.of_below (P := fun k => k = gz ∨ k = gl ∨ k = hbk) B0
 have hsz := B0.size
 have al2 := al
 have ah2 := ah
 have hN5 : Nums W13 (some ⟨gp, 0, none⟩) (pnk + 1) (lpk ++ [p]) := nums_of_owns own9 (by omega)
 intro A f
 refine l_call f rfl rfl rfl (IsCall.mk' (cap := []) rfl rfl rfl) (pl rfl) (pSetList_t _ B gl hbk y ⟨cpu, (zI : Nat), tI, (lpk ++ [p])⟩ (.slice none 0 0) (some ⟨gp, 0, none⟩) (pnk + 1) cp i rhbk ol el hAt al2 ah2 hhl (by omega) hord hN5 (fun _ a ha => by cases ha; dsimp only; omega) (by omega) (by show y.ln ≤ 300; omega) (by show i < y.ln; omega) hA) ?_
 clear f A
 rintro _ W21 ⟨rfl, ls2, lo2, ln2, lc2, rh2, hAt2, hls2, hbu, hlo2, hmem2⟩
 refine ⟨_, rfl, ?_⟩
 refine vW (vS (vR (vla (h:=vW (vE ?_))))); intro A f
 refine x_ret1 f rfl rfl ?_
 have hL : lsPages y.hp.lists ⟨cpu, (zI : Nat), tI, []⟩ = lpk := by rw [lsPages_at hrp hA]; rw [if_pos rfl]; show ((List.map (fun x : Lc => x.l) y.ls).getD i Ls.zero).pages = lpk; rw [getD_l, hke]
 refine ⟨rfl, y.withL ls2 lo2 ln2 lc2, rh2, hAt2, ?_, hex.trans (Ex.of_bu2 hbu (.inr (.inr rfl)) (.inr (.inl rfl))), fun b hb hbl ha => ?_, rfl⟩
 ·unfold keepH
  rw [hzI, htI, hL, if_neg (by rw [List.length_append]; simp only [List.length_cons, List.length_nil]; omega)]
  show ({ y.hp with lists := ls2.map (·.l) } : Hp) = _
  rw [hls2]
 exact away_withL ha (fun _ a h => by rcases hlo2 a h with e | e <;> omega) (fun l hl => by rcases hmem2 l hl with h | rfl; (exact .inl h); exact .inr (fun a h => by cases h; dsimp only; omega))
end Go.Proofs.YtjohdbiipeedkaaGreatDoor
