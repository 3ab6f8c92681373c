/-
  OWN TEXTS, bundled: HZb, HcDrain, ManyH.
-/
import Derived.Test.YtbjlbmofdnkmiaaPagesDrainsPart9
import Derived.Test.YtbjlbmofdnkmiaaPagesDrainsPart11
import Derived.Test.YtbjlbmofdnkmiaaPagesDrainsPart2

/-
  OWN TEXT. Pages go back to their zones one by one: plain.
-/
namespace Go.Proofs.Ytbjlbmofdnkmiaa
open Go Go.RowKit Go.Proofs.Ytbjlbmofdnkmiaa.Kit

/-- The same heap with other zones. -/
def Kit.Hx.withZ (y : Hx) (zs : List Zc) : Hx := { y with zs := zs }
theorem withZ_self (y : Hx) : y.withZ y.zs = y := rfl
theorem withZ_set (y : Hx) (zs : List Zc) (i : Nat) (z : Zc) : (y.withZ zs).setZ i z = y.withZ (zs.set i z) := rfl
theorem Kit.But.gr {g : Nat} {w w' w'' : World} (h : But g w w') (hb : Below w'.heap.size w' w'') : But g w w'' := h.trans (But.of_below hb)
def backs (H : Hp) : List Int → Hp
  | [] => H
  | p :: r => backs (backH H p 0) r
def CanBacks : Hp → List Int → Prop
  | _, [] => True
  | H, p :: r => CanBack H p 0 ∧ CanBacks (backH H p 0) r
theorem backs_append (H : Hp) : ∀ (l m : List Int), backs H (l ++ m) = backs (backs H l) m
  | [], _ => rfl
  | p :: r, m => by rw [List.cons_append]; exact backs_append (backH H p 0) r m
theorem canBacks_append {H : Hp} : ∀ {l m : List Int}, CanBacks H (l ++ m) ↔ CanBacks H l ∧ CanBacks (backs H l) m
  | [], m => by simp [CanBacks, backs]
  | p :: r, m => by
    have ih := canBacks_append (H := backH H p 0) (l := r) (m := m)
    simp only [List.cons_append, CanBacks, backs, ih, and_assoc]
theorem backs_take {H : Hp} {l : List Int} {k : Nat} (hk : k < l.length) {p : Int} (hp : l.getD k 0 = p) : backs H (l.take (k + 1)) = backH (backs H (l.take k)) p 0 := by
  rw [List.getD_eq_getElem?_getD, List.getElem?_eq_getElem hk] at hp
  rw [List.take_succ_eq_append_getElem hk, backs_append]
  simp only [Option.getD_some] at hp
  rw [hp]; rfl
theorem canBacks_at {H : Hp} {l : List Int} (h : CanBacks H l) {k : Nat} (hk : k < l.length) {p : Int} (hp : l.getD k 0 = p) : CanBack (backs H (l.take k)) p 0 := by
  rw [List.getD_eq_getElem?_getD, List.getElem?_eq_getElem hk] at hp
  simp only [Option.getD_some] at hp
  have e : l = l.take k ++ (p :: l.drop (k + 1)) := by rw [← hp, List.getElem_cons_drop, List.take_append_drop]
  rw [e, canBacks_append] at h
  exact h.2.1
theorem backs_lists (H : Hp) : ∀ (l : List Int), (backs H l).lists = H.lists ∧ (backs H l).mins = H.mins ∧ (backs H l).cpus = H.cpus ∧ (backs H l).live = H.live
  | [] => ⟨rfl, rfl, rfl, rfl⟩
  | p :: r => backs_lists (backH H p 0) r
theorem withZ_hp (y : Hx) (zs : List Zc) : (y.withZ zs).hp = { y.hp with zones := zs.map (·.z) } := rfl

theorem backH_ft (H : Hp) (p o : Int) (i : Nat) : ((backH H p o).zones.getD i ⟨0, 0, [], []⟩).f = (H.zones.getD i ⟨0, 0, [], []⟩).f ∧ ((backH H p o).zones.getD i ⟨0, 0, [], []⟩).t = (H.zones.getD i ⟨0, 0, [], []⟩).t := by
  unfold backH
  dsimp only
  simp only [List.getD_eq_getElem?_getD, List.getElem?_set]
  by_cases e : zIdx H p = i
  · subst e
    by_cases h : zIdx H p < H.zones.length
    · simp [h, backZ]
    · simp [h]
  · simp [e]
theorem backs_ft (i : Nat) : ∀ (l : List Int) (H : Hp), ((backs H l).zones.getD i ⟨0, 0, [], []⟩).f = (H.zones.getD i ⟨0, 0, [], []⟩).f ∧ ((backs H l).zones.getD i ⟨0, 0, [], []⟩).t = (H.zones.getD i ⟨0, 0, [], []⟩).t
  | [], H => ⟨rfl, rfl⟩
  | p :: r, H => by
    have h1 := backs_ft i r (backH H p 0)
    have h2 := backH_ft H p 0 i
    exact ⟨h1.1.trans h2.1, h1.2.trans h2.2⟩
/-- The second zone begins where the first one ends. -/
def Adj (y : Hx) : Prop := (y.zs.getD 1 .zero).z.f = (y.zs.getD 0 .zero).z.t
theorem adj_backs {y : Hx} {zs : List Zc} {l : List Int} (h : Adj y) (he : (y.withZ zs).hp = backs y.hp l) : Adj (y.withZ zs) := by
  unfold Adj at h ⊢
  rw [← hp_zone, ← hp_zone] at h ⊢
  rw [he, (backs_ft 1 l y.hp).1, (backs_ft 0 l y.hp).2]
  exact h

end Go.Proofs.Ytbjlbmofdnkmiaa

/-
  OWN TEXT. Contracts of the code: pages.backAll, drain (written by sxdr.py).
-/
namespace Go.Proofs.Ytbjlbmofdnkmiaa
open Go Go.RowKit Go.Proofs.Ytbjlbmofdnkmiaa.Kit

set_option maxRecDepth 10000 in
set_option maxHeartbeats 4000000 in
theorem pBackAll_ok (w : World) (B gz hbk : Nat) (y : Hx) (po : Option Addr) (pn pc : Nat) (ps : List Int) (rh : w.heap[hbk]? = some (.cells #[.slice y.zo y.zn y.zc, .slice y.mo y.mn y.mc, .int .i64 y.cpus, .slice y.lo y.ln y.lc, .slice y.vo y.vn y.vc] 28 (0, 0))) (HY : HZ w B gz y) (hne : hbk ≠ gz) (hN : Nums w po pn ps) (hne2 : 0 < ps.length → ∀ a, po = some a → a.block ≠ gz) (hc : CanBacks y.hp ps) :
    Calls Try.prog 72 #[.pointer (some ⟨hbk, 0, none⟩), .slice po pn pc] w fun e w' => e = .returned (.int .i64 0) ∧ ∃ zs, (y.withZ zs).hp = backs y.hp ps ∧ HZ w' B gz (y.withZ zs) ∧ But gz w w' ∧ (∀ b, b < w.heap.size → Away b y → Away b (y.withZ zs)) := by
  have nr := hN.reach
  have B0 := Below.refl w.heap.size w
  refine sx_enter (args := [_, _]) 21 Try.func72 rfl rfl rfl ?_
  intro A f
  refine wp_seq ?_
  refine sx_list ?_
  refine l_do f rfl rfl rfl (y_assign rfl rfl) ?_; clear f A; intro A f
  refine wpList_nil ?_
  refine x_tn ?_
  refine wp_seq ?_
  refine wp_seq ?_
  refine sx_list ?_
  refine l_do f rfl rfl rfl (y_move rfl rfl) ?_; clear f A; intro A f
  refine l_do f rfl rfl rfl (y_len rfl rfl (sl rfl)) ?_; clear f A; intro A f
  refine l_do f rfl rfl rfl (y_move rfl rfl) ?_; clear f A; intro A f
  refine wpList_nil ?_
  refine x_tn ?_
  refine wp_block ?_
  refine x_loop (fun n A W => ∃ (k : Nat) (zs : List Zc), n = pn - k ∧ k ≤ pn ∧ Fr A 21 [(0, .pointer (some ⟨hbk, 0, none⟩)), (8, .slice po pn pc), (9, .int .i64 (pn : Nat)), (10, .int .i64 (k : Nat))] ∧ HZ W B gz (y.withZ zs) ∧ (y.withZ zs).hp = backs y.hp (ps.take k) ∧ But gz w W ∧ (∀ b, b < w.heap.size → Away b y → Away b (y.withZ zs))) (n0 := pn) (⟨0, y.zs, rfl, Nat.zero_le _, f.sub ⟨rfl, rfl, rfl, rfl, trivial⟩, HY.below B0, rfl, But.of_below B0, fun _ _ h => h⟩) ?_
  clear f A
  clear B0
  rintro n A W1 ⟨k, zs, hn, hk, f, HYk, hhp, hbt, haw⟩
  have BW := Below.refl W1.heap.size W1
  have hNk := nums_but hN hbt hne2
  have rhk := But.row hbt rh hne
  refine wp_seq ?_
  refine sx_list ?_
  refine l_if _ f rfl rfl rfl (y_lss rfl rfl rfl) ?_ ?_
  · clear f A; intro c2 A f
    refine wpList_nil ?_
    refine x_tn ?_
    refine wp_seq ?_
    refine x_condT f rfl ?_
    refine wp_skip ?_
    refine x_tn ?_
    refine wp_seq ?_
    refine wp_block ?_
    refine wp_seq ?_
    refine sx_list ?_
    obtain ⟨gg, og, vg, hag, c0g, hXg⟩ := hNk.at_.at (k) (by have := hNk.len; omega)
    replace c0g := St.of c0g
    rw [show og + k = og + k * 1 by omega] at c0g
    have hcb : CanBack (y.withZ zs).hp vg 0 := by rw [hhp]; exact canBacks_at hc (by have := hN.len; omega) hXg.out
    refine l_do f rfl rfl rfl (y_index rfl rfl (by first | rfl | assumption) rfl (es rfl) (by omega)) ?_; clear f A; intro A f
    refine l_do f rfl rfl rfl (y_load1 rfl rfl (ag rfl) (by first | assumption | exact St.q c0g BW)) ?_; clear f A; intro A f
    refine l_do f rfl rfl rfl (y_assign rfl rfl) ?_; clear f A; intro A f
    refine wpList_nil ?_
    refine x_tn ?_
    refine wp_seq ?_
    refine sx_list ?_
    refine l_do f rfl rfl rfl (y_move rfl rfl) ?_; clear f A; intro A f
    refine l_do f rfl rfl rfl (y_move rfl rfl) ?_; clear f A; intro A f
    refine l_call f rfl rfl rfl (IsCall.mk' (cap := []) rfl rfl rfl) (pl rfl) (pBack_ok _ B gz hbk (y.withZ zs) vg 0 (row_next rhk BW) (HYk.below BW) hne hcb) ?_
    clear f A
    rintro _ W3 ⟨rfl, zk, hzk, HY2, hb2, haw2⟩
    refine ⟨_, rfl, ?_⟩
    intro A f
    have hbt2 := hbt.trans hb2
    refine l_do f rfl rfl rfl (y_assign rfl rfl) ?_; clear f A; intro A f
    refine wpList_nil ?_
    refine x_tn ?_
    refine wp_seq ?_
    refine sx_list ?_
    refine l_do f rfl rfl rfl (y_move rfl rfl) ?_; clear f A; intro A f
    refine l_if _ f rfl rfl rfl (y_neq rfl rfl rfl) ?_ ?_
    · intro c4; exfalso; omega
    · clear f A; intro c4 A f
      refine wpList_nil ?_
      refine x_tn ?_
      refine x_condF f rfl ?_
      refine wp_skip ?_
      refine x_bn ?_
      refine x_tn ?_
      refine sx_list ?_
      refine l_do f rfl rfl rfl (y_add rfl rfl rfl rfl (by omega)) ?_; clear f A; intro A f
      refine l_do f rfl rfl rfl (y_move rfl rfl) ?_; clear f A; intro A f
      refine wpList_nil ?_
      refine x_tn ?_
      exact ⟨pn - (k + 1), by omega, k + 1, _, rfl, by omega, f.sub ⟨rfl, rfl, rfl, rfl, trivial⟩, HY2, (setZ_hp hzk).trans (by rw [hhp, backs_take (by have := hN.len; omega) hXg.out]), hbt2, fun b hb h => haw2 b (by have := hbt.size; have := BW.size; omega) (haw b hb h)⟩
  · clear f A; intro c2 A f
    refine wpList_nil ?_
    refine x_tn ?_
    refine wp_seq ?_
    refine x_condF f rfl ?_
    refine wp_exit ?_
    refine x_te ?_
    refine x_te ?_
    refine x_bh ?_
    refine x_tn ?_
    refine wp_seq ?_
    refine sx_list ?_
    refine l_do f rfl rfl rfl (y_assign rfl rfl) ?_; clear f A; intro A f
    refine wpList_nil ?_
    refine x_tn ?_
    refine wp_ret ?_
    refine x_ret1 f rfl rfl ?_
    -- return 0: ¬c2@11
    exact ⟨rfl, zs, by rw [hhp, List.take_of_length_le (by have := hN.len; omega)], HYk, hbt, haw⟩


/-- The pages of the first k lists. -/
def pgsOf (y : Hx) (k : Nat) : List Int := (y.ls.take k).flatMap (fun l => l.l.pages)
theorem pgs_succ {y : Hx} {w : World} (h : y.At w) {pgs : Nat → List Int} (hp : pgs = pgsOf y) {k : Nat} (hk : k < y.ln) {c z t : Int} {pages : List Int} {po : Option Addr} {pn pc : Nat} (hX : y.ls.getD k .zero = ⟨⟨c, z, t, pages⟩, po, pn, pc⟩) : pgs k ++ pages = pgs (k + 1) := by
  have hl := h.lists.len
  subst hp
  unfold pgsOf
  rw [List.getD_eq_getElem?_getD, List.getElem?_eq_getElem (by omega)] at hX
  simp only [Option.getD_some] at hX
  rw [List.take_succ_eq_append_getElem (by omega), List.flatMap_append, hX]
  simp
theorem pgs_split {y : Hx} {w : World} (h : y.At w) {pgs : Nat → List Int} (hp : pgs = pgsOf y) {k : Nat} (hk : k < y.ln) {c z t : Int} {pages : List Int} {po : Option Addr} {pn pc : Nat} (hX : y.ls.getD k .zero = ⟨⟨c, z, t, pages⟩, po, pn, pc⟩) :
    y.hp.lists.flatMap (·.pages) = (pgs k ++ pages) ++ (y.ls.drop (k + 1)).flatMap (fun l => l.l.pages) := by
  rw [pgs_succ h hp hk hX]
  subst hp
  unfold pgsOf
  show (y.ls.map (·.l)).flatMap _ = _
  rw [List.flatMap_map, ← List.flatMap_append, List.take_append_drop]
theorem pgs_all {y : Hx} {w : World} (h : y.At w) {pgs : Nat → List Int} (hp : pgs = pgsOf y) {k : Nat} (hk : y.ln ≤ k) : pgs k = y.hp.lists.flatMap (·.pages) := by
  have hl := h.lists.len
  subst hp
  unfold pgsOf
  show _ = (y.ls.map (·.l)).flatMap _
  rw [List.flatMap_map, List.take_of_length_le (by omega)]
/-- The same heap without lists. -/
def Kit.Hx.noLists (y : Hx) : Hx := { y with ls := [], lo := none, ln := 0, lc := 0 }
theorem Away.noLists {b : Nat} {y : Hx} (h : Away b y) : Away b y.noLists :=
  ⟨h.f, h.t, h.m, fun h0 => absurd h0 (by simp [Kit.Hx.noLists]), fun l hl => (by cases hl), h.v⟩
theorem HZ.noLists {w : World} {B gz : Nat} {y : Hx} (h : HZ w B gz y) : HZ w B gz y.noLists :=
  ⟨h.oz, h.ez, ⟨h.at_.zones, h.at_.mins, Lsts.nil w, h.at_.live⟩, ⟨h.aw.f, h.aw.t, h.aw.m, fun h0 => absurd h0 (by simp [Kit.Hx.noLists]), fun l hl => (by cases hl), h.aw.v⟩, h.gB⟩

set_option maxRecDepth 10000 in
set_option maxHeartbeats 4000000 in
theorem pdrain_ok (w : World) (B gz hbk : Nat) (y : Hx) (rh : w.heap[hbk]? = some (.cells #[.slice y.zo y.zn y.zc, .slice y.mo y.mn y.mc, .int .i64 y.cpus, .slice y.lo y.ln y.lc, .slice y.vo y.vn y.vc] 28 (0, 0))) (HY : HZ w B gz y) (hne : hbk ≠ gz) (ha : Away hbk y) (hc : CanBacks y.hp (y.hp.lists.flatMap (·.pages))) :
    Calls Try.prog 55 #[.pointer (some ⟨hbk, 0, none⟩)] w fun e w' => e = .returned (.int .i64 0) ∧ ∃ zs, (y.withZ zs).hp = backs y.hp (y.hp.lists.flatMap (·.pages)) ∧ HZ w' B gz (y.withZ zs).noLists ∧ w'.heap[hbk]? = some (.cells #[.slice y.zo y.zn y.zc, .slice y.mo y.mn y.mc, .int .i64 y.cpus, .slice none 0 0, .slice y.vo y.vn y.vc] 28 (0, 0)) ∧ Bu2 gz hbk w w' ∧ (∀ b, b < w.heap.size → Away b y → Away b (y.withZ zs)) := by
  have lr := HY.at_.lists.reach
  obtain ⟨pgs, hpg⟩ : ∃ f, f = pgsOf y := ⟨_, rfl⟩
  have B0 := Below.refl w.heap.size w
  refine sx_enter (args := [_]) 26 Try.func55 rfl rfl rfl ?_
  intro A f
  refine wp_seq ?_
  refine sx_list ?_
  refine l_do f rfl rfl rfl (y_assign rfl rfl) ?_; clear f A; intro A f
  refine wpList_nil ?_
  refine x_tn ?_
  refine wp_seq ?_
  refine wp_seq ?_
  refine sx_list ?_
  refine l_do f rfl rfl rfl (y_move rfl rfl) ?_; clear f A; intro A f
  refine l_do f rfl rfl rfl (y_nil rfl rfl) ?_; clear f A; intro A f
  refine l_do f rfl rfl rfl (y_field rfl rfl (fo rfl)) ?_; clear f A; intro A f
  refine l_do f rfl rfl rfl (y_load1 rfl rfl (ag rfl) (rowl (rowq rh) rfl)) ?_; clear f A; intro A f
  refine l_do f rfl rfl rfl (y_len rfl rfl (sl rfl)) ?_; clear f A; intro A f
  refine l_do f rfl rfl rfl (y_move rfl rfl) ?_; clear f A; intro A f
  refine wpList_nil ?_
  refine x_tn ?_
  refine wp_block ?_
  have hL0 := HY.at_
  refine x_loop (fun n A W => ∃ (k : Nat) (zs : List Zc), n = y.ln - k ∧ k ≤ y.ln ∧ Fr A 26 [(0, .pointer (some ⟨hbk, 0, none⟩)), (9, .slice y.lo y.ln y.lc), (10, .int .i64 (y.ln : Nat)), (11, .int .i64 (k : Nat))] ∧ HZ W B gz (y.withZ zs) ∧ (y.withZ zs).hp = backs y.hp (pgs k) ∧ But gz w W ∧ (∀ b, b < w.heap.size → Away b y → Away b (y.withZ zs))) (n0 := y.ln) (⟨0, y.zs, rfl, Nat.zero_le _, f.sub ⟨rfl, rfl, rfl, rfl, trivial⟩, HY.below B0, by rw [hpg]; rfl, But.of_below B0, fun _ _ h => h⟩) ?_
  clear f A
  clear B0
  rintro n A W1 ⟨k, zs, hn, hk, f, HYk, hhp, hbt, haw⟩
  have BW := Below.refl W1.heap.size W1
  have rhk := But.row hbt rh hne
  refine wp_seq ?_
  refine sx_list ?_
  refine l_if _ f rfl rfl rfl (y_lss rfl rfl rfl) ?_ ?_
  · clear f A; intro c2 A f
    refine wpList_nil ?_
    refine x_tn ?_
    refine wp_seq ?_
    refine x_condT f rfl ?_
    refine wp_skip ?_
    refine x_tn ?_
    refine wp_seq ?_
    refine wp_block ?_
    refine wp_seq ?_
    refine sx_list ?_
    obtain ⟨gl, ol, lcl, lzl, ltl, lpl, pol, pnl, pcl, hal, c0l, c1l, c2l, c3l, hatl, hXl⟩ := HYk.at_.lists.at (k) (show k < y.ln by omega)
    replace c0l := St.of c0l; replace c1l := St.of c1l; replace c2l := St.of c2l; replace c3l := St.of c3l
    have hXl2 : y.ls.getD k .zero = ⟨⟨lcl, lzl, ltl, lpl⟩, pol, pnl, pcl⟩ := hXl.out
    have hml : (⟨⟨lcl, lzl, ltl, lpl⟩, pol, pnl, pcl⟩ : Lc) ∈ y.ls := by rw [← hXl2]; exact getD_mem (by have := HY.at_.lists.len; omega)
    have hNe : 0 < lpl.length → ∀ a, pol = some a → a.block ≠ gz := fun h0 a ha => HY.aw.p _ hml h0 a ha
    have hpk : pgs k ++ lpl = pgs (k + 1) := pgs_succ hL0 hpg (by omega) hXl2
    have hcb : CanBacks (y.withZ zs).hp lpl := by
      rw [hhp]
      have e := hc
      rw [pgs_split hL0 hpg (show k < y.ln by omega) hXl2, canBacks_append] at e
      rw [canBacks_append] at e
      exact e.1.2
    refine l_do f rfl rfl rfl (y_index rfl rfl (by first | rfl | assumption) rfl (es rfl) (by omega)) ?_; clear f A; intro A f
    refine l_do f rfl rfl rfl (y_loadN (vs := [_, _, _, _]) rfl rfl (ag rfl) rfl ⟨(by first | assumption | exact St.q c0l BW | exact St.q c1l BW | exact St.q c2l BW | exact St.q c3l BW), (by first | assumption | exact St.q c0l BW | exact St.q c1l BW | exact St.q c2l BW | exact St.q c3l BW), (by first | assumption | exact St.q c0l BW | exact St.q c1l BW | exact St.q c2l BW | exact St.q c3l BW), (by first | assumption | exact St.q c0l BW | exact St.q c1l BW | exact St.q c2l BW | exact St.q c3l BW), trivial⟩) ?_; clear f A; intro A f
    refine l_as (z := .agg #[.int .i64 0, .int .i64 0, .int .i64 0, .slice none 0 0]) f rfl rfl rfl rfl (by kernel_rfl) rfl rfl (fun _ => rfl) (fun _ => rfl) rfl (by intro u hu; simp [Value.cells] at hu; rcases hu with rfl | rfl | rfl | rfl <;> rfl) ?_; clear f A; intro b3 W4 eb3 hb5 rb3 A f
    dsimp only [Value.cells] at rb3
    have hpb3 := hb5
    have o_hbk_b3 : hbk < b3 := by have := row_lt rhk; omega
    have z_BW_b3 := BW.size; rw [eb3] at z_BW_b3
    replace BW := Below.next BW hb5; replace HYk := HYk.below hb5; replace hbt := hbt.gr hb5; replace rhk := row_next rhk hb5
    refine wpList_nil ?_
    refine x_tn ?_
    refine wp_seq ?_
    refine sx_list ?_
    refine l_do f rfl rfl rfl (y_move rfl rfl) ?_; clear f A; intro A f
    refine l_do f rfl rfl rfl (y_field rfl rfl (fo rfl)) ?_; clear f A; intro A f
    have hNl : Nums _ pol pnl lpl := hatl.below BW
    refine l_do f rfl rfl rfl (y_load1 rfl rfl (ag rfl) (rowl (rowq rb3) rfl)) ?_; clear f A; intro A f
    refine l_call f rfl rfl rfl (IsCall.mk' (cap := []) rfl rfl rfl) (pl rfl) (pBackAll_ok _ B gz hbk (y.withZ zs) pol pnl pcl lpl rhk HYk hne hNl hNe hcb) ?_
    clear f A
    rintro _ W6 ⟨rfl, zk, hzk, HY2, hb2, haw2⟩
    refine ⟨_, rfl, ?_⟩
    intro A f
    have hbt2 := hbt.trans (hb2)
    refine l_do f rfl rfl rfl (y_assign rfl rfl) ?_; clear f A; intro A f
    refine wpList_nil ?_
    refine x_tn ?_
    refine wp_seq ?_
    refine sx_list ?_
    refine l_do f rfl rfl rfl (y_move rfl rfl) ?_; clear f A; intro A f
    refine l_if _ f rfl rfl rfl (y_neq rfl rfl rfl) ?_ ?_
    · intro c7; exfalso; omega
    · clear f A; intro c7 A f
      refine wpList_nil ?_
      refine x_tn ?_
      refine x_condF f rfl ?_
      refine wp_skip ?_
      refine x_bn ?_
      refine x_tn ?_
      refine sx_list ?_
      refine l_do f rfl rfl rfl (y_add rfl rfl rfl rfl (by omega)) ?_; clear f A; intro A f
      refine l_do f rfl rfl rfl (y_move rfl rfl) ?_; clear f A; intro A f
      refine wpList_nil ?_
      refine x_tn ?_
      exact ⟨y.ln - (k + 1), by omega, k + 1, zk, rfl, by omega, f.sub ⟨rfl, rfl, rfl, rfl, trivial⟩, HY2, hzk.trans (by rw [hhp, ← backs_append, hpk]), hbt2, fun b hb h => haw2 b (by have := hbt.size; have := BW.size; omega) (haw b hb h)⟩
  · clear f A; intro c2 A f
    refine wpList_nil ?_
    refine x_tn ?_
    refine wp_seq ?_
    refine x_condF f rfl ?_
    refine wp_exit ?_
    refine x_te ?_
    refine x_te ?_
    refine x_bh ?_
    refine x_tn ?_
    refine wp_seq ?_
    refine sx_list ?_
    have hbe := hbt
    refine l_do f rfl rfl rfl (y_move rfl rfl) ?_; clear f A; intro A f
    refine l_do f rfl rfl rfl (y_nil rfl rfl) ?_; clear f A; intro A f
    refine l_do f rfl rfl rfl (y_field rfl rfl (fo rfl)) ?_; clear f A; intro A f
    refine l_store f rfl rfl rfl rfl rfl rhk (sz rfl) rfl (Nat.le_of_ble_eq_true rfl) rfl ?_
    clear rhk; intro W8 hb9 rhk; dsimp only [setL, over, Value.cells] at rhk; have hst := hb9
    refine wpList_nil ?_
    refine x_tn ?_
    refine wp_seq ?_
    refine sx_list ?_
    refine l_do f rfl rfl rfl (y_assign rfl rfl) ?_; clear f A; intro A f
    refine wpList_nil ?_
    refine x_tn ?_
    refine wp_ret ?_
    refine x_ret1 f rfl rfl ?_
    -- return 0: ¬c2@12
    exact ⟨rfl, zs, by rw [hhp, pgs_all hL0 hpg (by omega)], (HYk.but hst hne (haw _ (row_lt rh) ha)).noLists, rhk, (Bu2.of_but_g hbe).trans (Bu2.of_but_z hst), haw⟩


end Go.Proofs.Ytbjlbmofdnkmiaa

/-
  OWN TEXT. Several operations of a region that draws its order each make one block, in whatever order; over whatever program.
-/
namespace Go.Proofs.Ytbjlbmofdnkmiaa.Kit
open Go Go.RowKit

/-- The values, one of them changed. -/
def updF (f : Nat → Value) (j : Nat) (u : Value) : Nat → Value := fun k => if k = j then u else f k
theorem updF_same (f : Nat → Value) (j : Nat) (u : Value) : updF f j u j = u := by simp [updF]
theorem updF_other (f : Nat → Value) {j k : Nat} (u : Value) (h : k ≠ j) : updF f j u k = f k := by simp [updF, h]

theorem countP_upd {m j : Nat} {p q : Nat → Bool} (hj : j < m) (hp : p j = true) (hq : q j = false) (h : ∀ k, k ≠ j → q k = p k) : (List.range m).countP q + 1 = (List.range m).countP p := by
  induction m with
  | zero => omega
  | succ m ih =>
    rw [List.range_succ, List.countP_append, List.countP_append]
    by_cases e : j = m
    · subst e
      have : (List.range j).countP q = (List.range j).countP p := List.countP_congr fun k hk => by rw [h k (by have := List.mem_range.1 hk; omega)]
      simp [this, hp, hq]
    · have := ih (by omega)
      rw [show (List.countP q [m]) = List.countP p [m] by simp [List.countP_cons, h m (fun g => e g.symm)]]
      omega

/-- What is ready is one of the operations that have not come up; and there is one. -/
def rdyOk (md : Region.Mode) (l : List Oper) (listed : Array Bool) (ps : List (Nat × Bool)) : Bool :=
  ps.all (·.2) || (!(Region.ready md l.toArray listed).isEmpty && (Region.ready md l.toArray listed).all fun i => ps.any fun p => p.1 == i && !p.2)

theorem manyB {P : Program} {md : Region.Mode} {Q : Exit → Act → World → Prop} {S : World → Prop} {l : List Oper} (m mb : Nat) (hmb : mb ≤ m) (F : (Nat → Value) → Value → Act) (idx : Nat → Nat) (obj : Nat → Obj) (val : Nat → Nat → Value) (vb : (Nat → Nat) → Value) (L : (Nat → Bool) → Bool → Array Bool) {W0 : World} {fuel : Nat} {u0 : Value}
    (hop : ∀ j, j < m → ∃ o, l[idx j]? = some o ∧ o.guard = none ∧ ∀ (f : Nat → Value) (u : Value) (W : World) (K : Act → World → Prop), Below W0.heap.size W0 W → K (F (updF f j (val j W.heap.size)) u) (W.alloc (obj j)) → o.wp P (F f u) W K Q)
    (hset : ∀ j, j < m → ∀ b c, (L b c).setIfInBounds (idx j) true = L (fun k => if k = j then true else b k) c)
    (hL : ∀ b b' c, (∀ j, j < m → b j = b' j) → L b c = L b' c)
    (hF : ∀ f f' u, (∀ j, j < m → f j = f' j) → F f u = F f' u)
    (hvb : ∀ n n', (∀ j, j < mb → n j = n' j) → vb n = vb n')
    (hrdy' : ∀ b c, ((!c && (List.range mb).all b) || rdyOk md l (L b c) ((List.range m).map fun j => (idx j, b j))) = true)
    (hbuild : ∀ (b : Nat → Bool), (∀ j, j < mb → b j = true) → ∀ (f : Nat → Value) (n : Nat → Nat) (W : World) (fuel' : Nat), (∀ j, j < mb → f j = val j (n j)) → Below W0.heap.size W0 W → wpAnyH P md l.toArray Q S fuel' (L b true) (F f (vb n)) W → wpAnyH P md l.toArray Q S (fuel' + 1) (L b false) (F f u0) W)
    (hS : ∀ W, Below W0.heap.size W0 W → S W)
    (hend : ∀ (n : Nat → Nat) (W : World), Below W0.heap.size W0 W → (∀ j, j < m → W0.heap.size ≤ n j ∧ W.heap[n j]? = some (obj j)) → (∀ j k, j < m → k < m → j ≠ k → n j ≠ n k) → wpAnyH P md l.toArray Q S fuel (L (fun _ => true) true) (F (fun j => val j (n j)) (vb n)) W)
    (f0 : Nat → Value) : wpAnyH P md l.toArray Q S (fuel + m + 1) (L (fun _ => false) false) (F f0 u0) W0 := by
  have hrdy : ∀ (b : Nat → Bool) c, (c = true ∨ ∃ j, j < mb ∧ b j = false) → (∃ j, j < m ∧ b j = false) → Region.ready md l.toArray (L b c) ≠ [] ∧ ∀ i ∈ Region.ready md l.toArray (L b c), ∃ j, j < m ∧ i = idx j ∧ b j = false := by
    rintro b c hc ⟨j, hj, hjf⟩
    have h0 := hrdy' b c
    have h : rdyOk md l (L b c) ((List.range m).map fun j => (idx j, b j)) = true := by
      rcases Bool.or_eq_true _ _ ▸ h0 with h | h
      · exfalso
        rw [Bool.and_eq_true] at h
        rcases hc with rfl | ⟨k, hk, hkf⟩
        · simp at h
        · have := List.all_eq_true.1 h.2 k (List.mem_range.2 hk)
          rw [hkf] at this
          cases this
      · exact h
    unfold rdyOk at h
    rw [Bool.or_eq_true] at h
    rcases h with h | h
    · have := List.all_eq_true.1 h (idx j, b j) (List.mem_map.2 ⟨j, List.mem_range.2 hj, rfl⟩)
      rw [hjf] at this
      cases this
    · rw [Bool.and_eq_true] at h
      refine ⟨fun e => (by rw [e] at h; exact absurd h.1 (by simp)), fun i hi => ?_⟩
      have := List.all_eq_true.1 h.2 i hi
      obtain ⟨p, hp, hq⟩ := List.any_eq_true.1 this
      obtain ⟨k, hk, rfl⟩ := List.mem_map.1 hp
      simp only [Bool.and_eq_true, beq_iff_eq, Bool.not_eq_true'] at hq
      exact ⟨k, List.mem_range.1 hk, hq.1.symm, hq.2⟩
  suffices H : ∀ (c : Nat) (x : Nat → Option Nat) (bt : Bool) (u : Value) (f : Nat → Value) (W : World), (List.range m).countP (fun j => (x j).isNone) = c →
      (∀ j n, j < m → x j = some n → f j = val j n ∧ W0.heap.size ≤ n ∧ W.heap[n]? = some (obj j)) → (∀ j k n, j < m → k < m → j ≠ k → x j = some n → x k ≠ some n) → Below W0.heap.size W0 W →
      (bt = false → u = u0) → (bt = true → (∀ j, j < mb → (x j).isSome = true) ∧ u = vb fun j => (x j).getD 0) →
      wpAnyH P md l.toArray Q S (fuel + c + (if bt = true then 0 else 1)) (L (fun j => (x j).isSome) bt) (F f u) W by
    have h := H m (fun _ => none) false u0 f0 W0 (by simp) (fun j n _ h => by cases h) (fun j k n _ _ _ h => by cases h) (Below.refl _ _) (fun _ => rfl) (fun h => by cases h)
    simpa using h
  -- behind the build
  have done : ∀ (c : Nat) (x : Nat → Option Nat) (f : Nat → Value) (W : World), (List.range m).countP (fun j => (x j).isNone) = c →
      (∀ j n, j < m → x j = some n → f j = val j n ∧ W0.heap.size ≤ n ∧ W.heap[n]? = some (obj j)) → (∀ j k n, j < m → k < m → j ≠ k → x j = some n → x k ≠ some n) → Below W0.heap.size W0 W → c = 0 →
      wpAnyH P md l.toArray Q S fuel (L (fun j => (x j).isSome) true) (F f (vb fun j => (x j).getD 0)) W := by
    intro c x f W hc hx hd hb h0
    subst h0
    have hall : ∀ j, j < m → ∃ n, x j = some n := by
      intro j hj
      cases h : x j with
      | some n => exact ⟨n, rfl⟩
      | none =>
        have := (List.countP_eq_zero.1 hc) j (List.mem_range.2 hj)
        simp [h] at this
    have e1 : L (fun j => (x j).isSome) true = L (fun _ => true) true := hL _ _ _ fun j hj => by obtain ⟨n, hn⟩ := hall j hj; simp [hn]
    have e2 : F f (vb fun j => (x j).getD 0) = F (fun j => val j ((x j).getD 0)) (vb fun j => (x j).getD 0) := hF _ _ _ fun j hj => by obtain ⟨n, hn⟩ := hall j hj; rw [(hx j n hj hn).1, hn]; rfl
    rw [e1, e2]
    refine hend (fun j => (x j).getD 0) W hb (fun j hj => ?_) (fun j k hj hk hne => ?_)
    · obtain ⟨n, hn⟩ := hall j hj
      simp only [hn, Option.getD_some]
      exact (hx j n hj hn).2
    · obtain ⟨n, hn⟩ := hall j hj
      obtain ⟨n', hn'⟩ := hall k hk
      simp only [hn, hn', Option.getD_some]
      intro e
      exact hd j k n hj hk hne hn (by rw [hn', e])
  intro c
  induction c with
  | zero =>
    intro x bt u f W hc hx hd hb hu hu'
    have hall : ∀ j, j < m → ∃ n, x j = some n := by
      intro j hj
      cases h : x j with
      | some n => exact ⟨n, rfl⟩
      | none =>
        have := (List.countP_eq_zero.1 hc) j (List.mem_range.2 hj)
        simp [h] at this
    have hd0 := done 0 x f W hc hx hd hb rfl
    cases bt with
    | true =>
      rw [(hu' rfl).2]
      simpa using hd0
    | false =>
      rw [hu rfl]
      have := hbuild (fun j => (x j).isSome) (fun j hj => by obtain ⟨n, hn⟩ := hall j (by omega); simp [hn]) f (fun j => (x j).getD 0) W fuel (fun j hj => by obtain ⟨n, hn⟩ := hall j (by omega); rw [(hx j n (by omega) hn).1, hn]; rfl) hb hd0
      simpa using this
  | succ c ih =>
    have step : ∀ (x : Nat → Option Nat) (bt : Bool) (u : Value) (f : Nat → Value) (W : World), (List.range m).countP (fun j => (x j).isNone) = c + 1 →
      (∀ j n, j < m → x j = some n → f j = val j n ∧ W0.heap.size ≤ n ∧ W.heap[n]? = some (obj j)) → (∀ j k n, j < m → k < m → j ≠ k → x j = some n → x k ≠ some n) → Below W0.heap.size W0 W →
      (bt = false → u = u0) → (bt = true → (∀ j, j < mb → (x j).isSome = true) ∧ u = vb fun j => (x j).getD 0) → (bt = true ∨ ∃ j, j < mb ∧ (x j).isSome = false) →
      wpAnyH P md l.toArray Q S (fuel + (c + 1) + (if bt = true then 0 else 1)) (L (fun j => (x j).isSome) bt) (F f u) W := by
      intro x bt u f W hc hx hd hb hu hu' hbt
      have hex : ∃ j, j < m ∧ (x j).isSome = false := by
        apply Classical.byContradiction
        intro hno
        have : (List.range m).countP (fun j => (x j).isNone) = 0 := List.countP_eq_zero.2 fun j hj => by
          intro h
          exact hno ⟨j, List.mem_range.1 hj, by simpa using h⟩
        omega
      obtain ⟨r1, r2⟩ := hrdy (fun j => (x j).isSome) bt hbt hex
      have ef : fuel + (c + 1) + (if bt = true then 0 else 1) = (fuel + c + (if bt = true then 0 else 1)) + 1 := by omega
      rw [ef]
      refine ⟨fun h => absurd h r1, fun i hi => ?_⟩
      obtain ⟨j, hj, rfl, hn⟩ := r2 i hi
      obtain ⟨o, o1, o2, hwp⟩ := hop j hj
      have hnone : x j = none := by
        cases h : x j with
        | none => rfl
        | some n => rw [h] at hn; cases hn
      unfold wpOp
      have o1' : l.toArray[idx j]? = some o := by simpa using o1
      rw [o1']
      have hw : ∀ y, Region.wanted o y = true := fun y => by simp [Region.wanted, o2]
      simp only [hw, if_true]
      refine .inl (hwp f u W _ hb ?_)
      have hb' : Below W0.heap.size W0 (W.alloc (obj j)) := hb.alloc hb.size _
      have hg : ∀ n, n < W.heap.size → (W.alloc (obj j)).heap[n]? = W.heap[n]? := fun n hn => by
        show (W.heap.push (obj j))[n]? = _
        rw [Array.getElem?_push, if_neg (by omega)]
      have hself : (W.alloc (obj j)).heap[W.heap.size]? = some (obj j) := by
        show (W.heap.push (obj j))[W.heap.size]? = _
        rw [Array.getElem?_push, if_pos rfl]
      refine ⟨hS _ hb', ?_⟩
      rw [hset j hj]
      have key := ih (fun k => if k = j then some W.heap.size else x k) bt u (updF f j (val j W.heap.size)) (W.alloc (obj j)) (by
          have := countP_upd (m := m) (p := fun k => (x k).isNone) (q := fun k => (if k = j then some W.heap.size else x k).isNone) hj (by simp [hnone]) (by simp) (fun k hk => by simp [hk])
          omega) (fun k n hk h => by
          by_cases e : k = j
          · subst e
            simp only [if_true, Option.some.injEq] at h
            subst h
            exact ⟨updF_same _ _ _, hb.size, hself⟩
          · simp only [e, if_false] at h
            obtain ⟨h1, h2, h3⟩ := hx k n hk h
            have hlt := (Array.getElem?_eq_some_iff.1 h3).1
            exact ⟨by rw [updF_other _ _ e, h1], h2, (hg n hlt).trans h3⟩) (fun k k' n hk hk' hne h h' => by
          by_cases e : k = j
          · subst e
            have e' : ¬ k' = k := fun g => hne g.symm
            simp only [if_true, Option.some.injEq] at h
            simp only [e', if_false] at h'
            have := (Array.getElem?_eq_some_iff.1 (hx k' n hk' h').2.2).1
            omega
          · simp only [e, if_false] at h
            by_cases e' : k' = j
            · subst e'
              simp only [if_true, Option.some.injEq] at h'
              have := (Array.getElem?_eq_some_iff.1 (hx k n hk h).2.2).1
              omega
            · simp only [e', if_false] at h'
              exact hd k k' n hk hk' hne h h') hb' hu (fun h => by
          obtain ⟨a1, a2⟩ := hu' h
          have hjb : ¬ j < mb := fun hjb => by have := a1 j hjb; rw [hnone] at this; cases this
          refine ⟨fun k hk => ?_, ?_⟩
          · simp only [show ¬ k = j by omega, if_false]
            exact a1 k hk
          · rw [a2]
            exact hvb _ _ fun k hk => by simp only [show ¬ k = j by omega, if_false])
      have e1 : L (fun k => if k = j then true else (x k).isSome) bt = L (fun k => (if k = j then some W.heap.size else x k).isSome) bt := hL _ _ _ fun k _ => by
        by_cases e : k = j <;> simp [e]
      rw [e1]
      exact key
    intro x bt u f W hc hx hd hb hu hu'
    by_cases hq : bt = true ∨ ∃ j, j < mb ∧ (x j).isSome = false
    · exact step x bt u f W hc hx hd hb hu hu' hq
    · have hbt : bt = false := by cases bt with
        | false => rfl
        | true => exact absurd (.inl rfl) hq
      have hallb : ∀ j, j < mb → (x j).isSome = true := fun j hj => by
        cases h : (x j).isSome with
        | true => rfl
        | false => exact absurd (.inr ⟨j, hj, h⟩) hq
      subst hbt
      rw [hu rfl]
      have := step x true (vb fun j => (x j).getD 0) f W hc hx hd hb (fun h => by cases h) (fun _ => ⟨hallb, rfl⟩) (.inl rfl)
      have h2 := hbuild (fun j => (x j).isSome) hallb f (fun j => (x j).getD 0) W _ (fun j hj => by
        have := hallb j hj
        cases h : x j with
        | none => rw [h] at this; cases this
        | some n => rw [(hx j n (by omega) h).1]; rfl) hb this
      simpa using h2

end Go.Proofs.Ytbjlbmofdnkmiaa.Kit
