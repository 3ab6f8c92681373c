/-
  OWN TEXTS, bundled: LFree, RefLs0, RefZo.
-/
import Derived.Test.YtbjlbmofdnkmiaaPagesFreesPart17
import Derived.Test.YtbjlbmofdnkmiaaPagesFreesPart18
import Derived.Test.YtbjlbmofdnkmiaaPagesFreesPart10
import Derived.Test.YtbjlbmofdnkmiaaPagesFreesPart16
import Derived.Test.YtbjlbmofdnkmiaaPagesFreesPart11

/-
  OWN TEXT. Contracts of the code: pages.Free (written by sxfree2.py).
-/
namespace Go.Proofs.Ytbjlbmofdnkmiaa
open Go Go.RowKit Go.Proofs.Ytbjlbmofdnkmiaa.Kit

theorem at_butA {w w' : World} {b : Nat} {y : Hx} (h : y.At w) (hb : But b w w') (a : Away b y) (z : ∀ c, y.zo = some c → c.block ≠ b) : y.At w' := by
  refine ⟨zons_but h.zones hb (fun _ => z) a.f a.t, nums_but h.mins hb a.m, ⟨h.lists.len, h.lists.reach, ?_, fun l hl => nums_but (h.lists.at_ l hl) hb (a.p l hl)⟩, blks_but h.live hb a.v⟩
  by_cases e : 0 < y.ls.length
  · exact h.lists.cells.but hb (a.l e)
  · intro i hi; rw [List.length_map] at hi; omega
theorem Ex.belowB {P : Nat → Prop} {B : Nat} {w w' : World} (h : Ex P w w') (hP : ∀ k, P k → B ≤ k) (hB : B ≤ w.heap.size) : Below B w w' :=
  ⟨h.os, h.tape, h.output, h.size, fun k hk => h.block k (by omega) (fun hp => by have := hP k hp; omega)⟩
/-- slices.Delete at one block, whatever the slice. -/
theorem bDel_all (w : World) (base n cap i : Nat) (lo : Option Addr) (l : List Bk) (hi : i < n) (hn : n ≤ 300) (own : w.ownsRow base 63 3 (.slice lo n cap) n (bvals l)) :
    Calls Try.prog 48 #[.slice lo n cap, .int .i64 i, .int .i64 ((i : Int) + 1)] w fun e w' => ∃ g, lo = some ⟨g, 0, none⟩ ∧ e = .returned (.slice lo (n - 1 : Nat) cap) ∧
      w'.ownsRow base 63 3 (.slice lo (n - 1) cap) (n - 1) (bvals (l.eraseIdx i)) ∧ But g w w' := by
  obtain ⟨N, rfl⟩ : ∃ N, n = N + 1 := ⟨n - 1, by omega⟩
  rcases own.2 with ⟨_, e2⟩ | ⟨g, cap', cur, e1, _⟩
  · omega
  · simp only [Value.slice.injEq] at e1
    obtain ⟨rfl, _, _⟩ := e1
    refine (bDel_any w base g N cap i l (by omega) (by omega) own).mono ?_
    rintro e w' ⟨rfl, h1, h2⟩
    exact ⟨g, rfl, rfl, h1, h2⟩
/-- The same heap with other blocks away. -/
def Kit.Hx.withV (y : Hx) (l : List Bk) (n : Nat) : Hx := { y with live := l, vn := n }
theorem HOwn.withV {w w' : World} {B gz gl gv : Nat} {y : Hx} (h : HOwn w B gz gl gv y) (hb : But gv w w') {l : List Bk} {n : Nat} (ov : w'.ownsRow B 63 3 (.slice y.vo n y.vc) n (bvals l)) (hr : n * 24 ≤ 140737488351232) : HOwn w' B gz gl gv (y.withV l n) := by
  refine ⟨owns_butN h.oz hb (fun a ha => by have ha' : y.zo = some a := ha; rw [h.ez] at ha'; cases ha'; exact h.zv), owns_butN h.ol hb (fun a ha => by rw [h.el a ha]; exact h.lv), ov, h.ez, h.el, h.ev, ?_, h.zl, h.zv, h.lv, h.zoff, h.loff, h.moff, h.mfresh, h.gzB, h.glB, h.gvB⟩
  refine ⟨zons_but h.at_.zones hb (fun _ a ha => by have ha' : y.zo = some a := ha; rw [h.ez] at ha'; cases ha'; exact h.zv) (fun z hz _ a ha => ((h.zoff z hz).1 a ha).2.2) (fun z hz _ a ha => ((h.zoff z hz).2.1 a ha).2.2), nums_but h.at_.mins hb (fun _ a ha => (h.moff a ha).2.2), ⟨h.at_.lists.len, h.at_.lists.reach, ?_, fun l hl => nums_but (h.at_.lists.at_ l hl) hb (fun _ a ha => ((h.loff l hl).1 a ha).2.2)⟩, ⟨bowns_len ov, hr, blks_of_owns ov⟩⟩
  exact h.at_.lists.cells.but hb (fun a ha => by rw [h.el a ha]; exact h.lv)
theorem HOwn.below {w w' : World} {B gz gl gv : Nat} {y : Hx} (h : HOwn w B gz gl gv y) (hb : Below w.heap.size w w') : HOwn w' B gz gl gv y :=
  ⟨owns_below h.oz hb (Nat.le_refl _), owns_below h.ol hb (Nat.le_refl _), owns_below h.ov hb (Nat.le_refl _), h.ez, h.el, h.ev, h.at_.below hb, h.zl, h.zv, h.lv, h.zoff, h.loff, h.moff, h.mfresh, h.gzB, h.glB, h.gvB⟩
theorem HOwn.awayGl {w : World} {B gz gl gv : Nat} {y : Hx} (h : HOwn w B gz gl gv y) : AwayL gl y :=
  ⟨fun _ a ha => by rw [h.ez] at ha; cases ha; exact h.zl, fun z hz _ a ha => ((h.zoff z hz).1 a ha).2.1, fun z hz _ a ha => ((h.zoff z hz).2.1 a ha).2.1, fun _ a ha => (h.moff a ha).2.1, fun l hl _ a ha => ((h.loff l hl).1 a ha).2.1, fun _ a ha => by rw [h.ev a ha]; exact Ne.symm h.lv⟩
theorem HOwn.awayLow {w : World} {B gz gl gv b : Nat} {y : Hx} (h : HOwn w B gz gl gv y) (hb : b < B) : AwayL b y :=
  ⟨fun _ a ha => by rw [h.ez] at ha; cases ha; have := h.gzB; dsimp only; omega, fun z hz _ a ha => by have := (h.zoff z hz).2.2.1 a ha; omega, fun z hz _ a ha => by have := (h.zoff z hz).2.2.2 a ha; omega, fun _ a ha => by have := h.mfresh a ha; omega, fun l hl _ a ha => by have := (h.loff l hl).2.1 a ha; omega, fun _ a ha => by rw [h.ev a ha]; have := h.gvB; omega⟩
/-- Some block serves as that of the row of lists. -/
theorem HOwn.rowL {w : World} {B gz gl gv c : Nat} {y : Hx} (h : HOwn w B gz gl gv y) (hc : c < B) (hw : B ≤ w.heap.size) :
    ∃ g, (∀ a, y.lo = some a → a.block = g) ∧ AwayL g y ∧ gz ≠ g ∧ g < w.heap.size ∧ ((g = gl ∧ ∃ a, y.lo = some a) ∨ g = c) := by
  cases e : y.lo with
  | none => exact ⟨c, (fun a ha => (by cases ha)), h.awayLow hc, (by have := h.gzB; omega), (by omega), .inr rfl⟩
  | some a =>
    have := (owns_blk h.ol a e).2.1
    exact ⟨gl, fun b hb => by rw [← e] at hb; exact h.el b hb, h.awayGl, h.zl, by rw [← h.el a e]; exact this, .inl ⟨rfl, a, rfl⟩⟩
theorem live_few {H : Hp} (h : LvsOk H.live) : H.live.length ≤ 256 := by
  have key : ∀ i, i < H.live.length → (i : Int) ≤ (H.live.getD i .zero).a := by
    intro i
    induction i with
    | zero => intro hi; exact (h.ok 0 hi).a.1
    | succ i ih =>
      intro hi
      have g := ih (by omega)
      have o := h.ord (i + 1) (by omega) hi
      rw [show i + 1 - 1 = i by omega] at o
      omega
  by_cases e : H.live.length ≤ 256
  · exact e
  · have k := key 256 (by omega)
    have m := (h.ok 256 (by omega)).a
    omega

set_option maxRecDepth 10000 in
set_option maxHeartbeats 4000000 in
theorem pFreeF_c (w : World) (b : Bk) (g : Nat) (p : Int) (hq : St w ⟨g, 0, none⟩ (.int .i64 p)) :
    Calls Try.prog 47 #[.agg #[.int .i64 b.a, .int .i64 b.o, .int .i64 b.t], .pointer (some ⟨g, 0, none⟩)] w fun e w' => e = .returned (.bool (decide (b.a = p))) ∧ Below w.heap.size w w' := by
  have B0 := Below.refl w.heap.size w
  refine sx_enter (args := [_, _]) 8 Try.func47 rfl rfl rfl ?_
  intro A f
  refine wp_seq ?_
  refine sx_list ?_
  refine l_box f rfl rfl rfl rfl rfl ?_; clear f A; intro b1 W2 eb1 hb3 rb1 A f; dsimp only [Value.cells] at rb1
  have z_B0_b1 := B0.size; rw [eb1] at z_B0_b1
  replace B0 := Below.next B0 hb3
  refine l_do f rfl rfl rfl (y_assign rfl rfl) ?_; clear f A; intro A f
  refine wpList_nil ?_
  refine x_tn ?_
  refine wp_seq ?_
  refine sx_list ?_
  refine l_do f rfl rfl rfl (y_field rfl rfl (fo rfl)) ?_; clear f A; intro A f
  refine l_do f rfl rfl rfl (y_load1 rfl rfl (ag rfl) (rowl (rowq rb1) rfl)) ?_; clear f A; intro A f
  refine l_do f rfl rfl rfl (y_load1 rfl rfl (ag rfl) (St.q hq B0)) ?_; clear f A; intro A f
  refine l_do f rfl rfl rfl (y_eql rfl rfl rfl) ?_; clear f A; intro A f
  refine l_do f rfl rfl rfl (y_assign rfl rfl) ?_; clear f A; intro A f
  refine wpList_nil ?_
  refine x_tn ?_
  refine wp_ret ?_
  refine x_ret1 f rfl rfl ?_
  -- return 0: 
  exact ⟨rfl, B0⟩

theorem freeIdx (w : World) (vo : Option Addr) (vn vc g : Nat) (l : List Bk) (p : Int) (hb : Blks w vo vn l) (hq : St w ⟨g, 0, none⟩ (.int .i64 p)) :
    Calls Try.prog 46 #[.slice vo vn vc, .func (.func 47) #[] #[.pointer (some ⟨g, 0, none⟩)]] w fun e w' => FoundAt e l (fun b => decide (b.a = p)) ∧ Below w.heap.size w w' :=
  bIndex_any w 47 #[.pointer (some ⟨g, 0, none⟩)] vo vn vc l _ hb (fun args W => pl rfl args W) (fun i _ W hW => pFreeF_c W (l.getD i .zero) g p (fun wx hx => hq wx (Below.next hW hx)))
set_option maxRecDepth 10000 in
set_option maxHeartbeats 4000000 in
theorem pFree_no8 (w : World) (x : Hx) (cpu p : Int) (hx : x.At w) (hM : ¬ HMay x.hp) :
    Calls Try.prog 15 #[.agg #[.slice x.zo x.zn x.zc, .slice x.mo x.mn x.mc, .int .i64 x.cpus, .slice x.lo x.ln x.lc, .slice x.vo x.vn x.vc], .int .i64 cpu, .int .i64 p] w fun e w' => e = .returned (.tuple #[.agg #[.slice none 0 0, .slice none 0 0, .int .i64 0, .slice none 0 0, .slice none 0 0], .int .i64 8]) ∧ Below w.heap.size w w' := by
  have HC : ∀ W, x.At W → Calls Try.prog 11 #[.agg #[.slice x.zo x.zn x.zc, .slice x.mo x.mn x.mc, .int .i64 x.cpus, .slice x.lo x.ln x.lc, .slice x.vo x.vn x.vc]] W fun e w' => e = .returned (.int .i64 8) ∧ Below W.heap.size W w' := fun W hW => (pCheck_any W x hW).mono fun e w1 h1 => by
    obtain ⟨⟨c, rfl, hc⟩, hb⟩ := h1
    rcases hc with ⟨_, h⟩ | ⟨rfl, _⟩
    · exact absurd h hM
    · exact ⟨rfl, hb⟩
  have B0 := Below.refl w.heap.size w
  refine sx_enter (args := [_, _, _]) 51 Try.func15 rfl rfl rfl ?_
  intro A f
  refine wp_seq ?_
  refine sx_list ?_
  refine l_box f rfl rfl rfl rfl rfl ?_; clear f A; intro b1 W2 eb1 hb3 rb1 A f; dsimp only [Value.cells] at rb1
  have z_B0_b1 := B0.size; rw [eb1] at z_B0_b1
  replace B0 := Below.next B0 hb3
  refine l_box f rfl rfl rfl rfl rfl ?_; clear f A; intro b4 W5 eb4 hb6 rb4 A f; dsimp only [Value.cells] at rb4
  have o_b1_b4 : b1 < b4 := by have := row_lt rb1; omega
  have z_B0_b4 := B0.size; rw [eb4] at z_B0_b4
  replace B0 := Below.next B0 hb6; replace rb1 := row_next rb1 hb6
  refine l_alloc (z := .agg #[.slice none 0 0, .slice none 0 0, .int .i64 0, .slice none 0 0, .slice none 0 0]) f rfl rfl rfl rfl (by kernel_rfl) ?_; clear f A; intro b7 W8 eb7 hb9 rb7 A f; dsimp only [Value.cells] at rb7
  have o_b1_b7 : b1 < b7 := by have := row_lt rb1; omega
  have o_b4_b7 : b4 < b7 := by have := row_lt rb4; omega
  have z_B0_b7 := B0.size; rw [eb7] at z_B0_b7
  replace B0 := Below.next B0 hb9; replace rb1 := row_next rb1 hb9; replace rb4 := row_next rb4 hb9
  refine l_do f rfl rfl rfl (y_assign rfl rfl) ?_; clear f A; intro A f
  refine wpList_nil ?_
  refine x_tn ?_
  refine wp_seq ?_
  refine wp_seq ?_
  refine sx_list ?_
  refine l_do f rfl rfl rfl (y_loadN (vs := [_, _, _, _, _]) rfl rfl (ag rfl) rfl (rowls (rowq rb1) _ _ ⟨rfl, rfl, rfl, rfl, rfl, trivial⟩)) ?_; clear f A; intro A f
  refine l_call f rfl rfl rfl (IsCall.mk' (cap := []) rfl rfl rfl) (pl rfl) (HC _ (hx.below B0)) ?_; clear f A; rintro _ W11 ⟨rfl, hb10⟩; refine ⟨_, rfl, ?_⟩; intro A f; replace B0 := Below.next B0 hb10; replace rb1 := row_next rb1 hb10; replace rb4 := row_next rb4 hb10; replace rb7 := row_next rb7 hb10
  refine l_do f rfl rfl rfl (y_assign rfl rfl) ?_; clear f A; intro A f
  refine wpList_nil ?_
  refine x_tn ?_
  refine wp_seq ?_
  refine sx_list ?_
  refine l_do f rfl rfl rfl (y_move rfl rfl) ?_; clear f A; intro A f
  refine l_if _ f rfl rfl rfl (y_neq rfl rfl rfl) ?_ ?_
  · clear f A; intro c12 A f
    refine wpList_nil ?_
    refine x_tn ?_
    refine x_condT f rfl ?_
    refine wp_seq ?_
    refine sx_list ?_
    refine l_do f rfl rfl rfl (y_build #[.slice none 0 0, .slice none 0 0, .int .i64 0, .slice none 0 0, .slice none 0 0] rfl rfl (by kernel_rfl)) ?_; clear f A; intro A f
    refine l_do f rfl rfl rfl (y_move rfl rfl) ?_; clear f A; intro A f
    refine l_store f rfl rfl rfl rfl rfl rb7 (sz rfl) rfl (Nat.le_of_ble_eq_true rfl) rfl ?_
    clear rb7; intro W13 hb14 rb7; dsimp only [setL, over, Value.cells] at rb7; replace B0 := Below.thenBut B0 hb14 (by omega); replace rb1 := But.row hb14 rb1 (by omega); replace rb4 := But.row hb14 rb4 (by omega)
    refine l_do f rfl rfl rfl (y_assign rfl rfl) ?_; clear f A; intro A f
    refine wpList_nil ?_
    refine x_tn ?_
    refine wp_ret ?_
    refine x_tr ?_
    refine x_retc1 f rfl rfl rfl (ag rfl) rb7 rfl ?_
    -- return 0: c12@15
    exact ⟨rfl, B0⟩
  · intro c12; exfalso; omega

set_option maxRecDepth 10000 in
set_option maxHeartbeats 4000000 in
theorem pFree_no1 (w : World) (x : Hx) (cpu p : Int) (hx : x.At w) (hM : HMay x.hp) (hc : ¬ (0 ≤ cpu ∧ cpu ≤ x.cpus - 1)) :
    Calls Try.prog 15 #[.agg #[.slice x.zo x.zn x.zc, .slice x.mo x.mn x.mc, .int .i64 x.cpus, .slice x.lo x.ln x.lc, .slice x.vo x.vn x.vc], .int .i64 cpu, .int .i64 p] w fun e w' => e = .returned (.tuple #[.agg #[.slice none 0 0, .slice none 0 0, .int .i64 0, .slice none 0 0, .slice none 0 0], .int .i64 1]) ∧ Below w.heap.size w w' := by
  have HC : ∀ W, x.At W → Calls Try.prog 11 #[.agg #[.slice x.zo x.zn x.zc, .slice x.mo x.mn x.mc, .int .i64 x.cpus, .slice x.lo x.ln x.lc, .slice x.vo x.vn x.vc]] W fun e w' => e = .returned (.int .i64 0) ∧ Below W.heap.size W w' := fun W hW => (pCheck_any W x hW).mono fun e w1 h1 => by
    obtain ⟨⟨c, rfl, hc⟩, hb⟩ := h1
    rcases hc with ⟨rfl, _⟩ | ⟨_, hn⟩
    · exact ⟨rfl, hb⟩
    · exact absurd hM hn
  have B0 := Below.refl w.heap.size w
  refine sx_enter (args := [_, _, _]) 51 Try.func15 rfl rfl rfl ?_
  intro A f
  refine wp_seq ?_
  refine sx_list ?_
  refine l_box f rfl rfl rfl rfl rfl ?_; clear f A; intro b1 W2 eb1 hb3 rb1 A f; dsimp only [Value.cells] at rb1
  have z_B0_b1 := B0.size; rw [eb1] at z_B0_b1
  replace B0 := Below.next B0 hb3
  refine l_box f rfl rfl rfl rfl rfl ?_; clear f A; intro b4 W5 eb4 hb6 rb4 A f; dsimp only [Value.cells] at rb4
  have o_b1_b4 : b1 < b4 := by have := row_lt rb1; omega
  have z_B0_b4 := B0.size; rw [eb4] at z_B0_b4
  replace B0 := Below.next B0 hb6; replace rb1 := row_next rb1 hb6
  refine l_alloc (z := .agg #[.slice none 0 0, .slice none 0 0, .int .i64 0, .slice none 0 0, .slice none 0 0]) f rfl rfl rfl rfl (by kernel_rfl) ?_; clear f A; intro b7 W8 eb7 hb9 rb7 A f; dsimp only [Value.cells] at rb7
  have o_b1_b7 : b1 < b7 := by have := row_lt rb1; omega
  have o_b4_b7 : b4 < b7 := by have := row_lt rb4; omega
  have z_B0_b7 := B0.size; rw [eb7] at z_B0_b7
  replace B0 := Below.next B0 hb9; replace rb1 := row_next rb1 hb9; replace rb4 := row_next rb4 hb9
  refine l_do f rfl rfl rfl (y_assign rfl rfl) ?_; clear f A; intro A f
  refine wpList_nil ?_
  refine x_tn ?_
  refine wp_seq ?_
  refine wp_seq ?_
  refine sx_list ?_
  refine l_do f rfl rfl rfl (y_loadN (vs := [_, _, _, _, _]) rfl rfl (ag rfl) rfl (rowls (rowq rb1) _ _ ⟨rfl, rfl, rfl, rfl, rfl, trivial⟩)) ?_; clear f A; intro A f
  refine l_call f rfl rfl rfl (IsCall.mk' (cap := []) rfl rfl rfl) (pl rfl) (HC _ (hx.below B0)) ?_; clear f A; rintro _ W11 ⟨rfl, hb10⟩; refine ⟨_, rfl, ?_⟩; intro A f; replace B0 := Below.next B0 hb10; replace rb1 := row_next rb1 hb10; replace rb4 := row_next rb4 hb10; replace rb7 := row_next rb7 hb10
  refine l_do f rfl rfl rfl (y_assign rfl rfl) ?_; clear f A; intro A f
  refine wpList_nil ?_
  refine x_tn ?_
  refine wp_seq ?_
  refine sx_list ?_
  refine l_do f rfl rfl rfl (y_move rfl rfl) ?_; clear f A; intro A f
  refine l_if _ f rfl rfl rfl (y_neq rfl rfl rfl) ?_ ?_
  · intro c12; exfalso; omega
  · clear f A; intro c12 A f
    refine wpList_nil ?_
    refine x_tn ?_
    refine x_condF f rfl ?_
    refine wp_skip ?_
    refine x_tn ?_
    refine wp_seq ?_
    refine wp_seq ?_
    refine sx_list ?_
    refine l_do f rfl rfl rfl (y_loadN (vs := [_, _, _, _, _]) rfl rfl (ag rfl) rfl (rowls (rowq rb1) _ _ ⟨rfl, rfl, rfl, rfl, rfl, trivial⟩)) ?_; clear f A; intro A f
    refine l_do f rfl rfl rfl (y_move rfl rfl) ?_; clear f A; intro A f
    refine l_call f rfl rfl rfl (IsCall.mk' (cap := []) rfl rfl rfl) (pl rfl) (by have e := pIsCpu_any W11 (.slice x.zo x.zn x.zc) (.slice x.mo x.mn x.mc) (.slice x.lo x.ln x.lc) (.slice x.vo x.vn x.vc) x.cpus cpu; rw [inB_f hc] at e; exact e) ?_; clear f A; rintro _ W13 ⟨rfl, hb14⟩; refine ⟨_, rfl, ?_⟩; intro A f; replace B0 := Below.next B0 hb14; replace rb1 := row_next rb1 hb14; replace rb4 := row_next rb4 hb14; replace rb7 := row_next rb7 hb14
    refine l_do f rfl rfl rfl (y_not rfl rfl) ?_; clear f A; intro A f
    refine wpList_nil ?_
    refine x_tn ?_
    refine x_condT f rfl ?_
    refine wp_seq ?_
    refine sx_list ?_
    refine l_do f rfl rfl rfl (y_build #[.slice none 0 0, .slice none 0 0, .int .i64 0, .slice none 0 0, .slice none 0 0] rfl rfl (by kernel_rfl)) ?_; clear f A; intro A f
    refine l_store f rfl rfl rfl rfl rfl rb7 (sz rfl) rfl (Nat.le_of_ble_eq_true rfl) rfl ?_
    clear rb7; intro W15 hb16 rb7; dsimp only [setL, over, Value.cells] at rb7; replace B0 := Below.thenBut B0 hb16 (by omega); replace rb1 := But.row hb16 rb1 (by omega); replace rb4 := But.row hb16 rb4 (by omega)
    refine l_do f rfl rfl rfl (y_assign rfl rfl) ?_; clear f A; intro A f
    refine wpList_nil ?_
    refine x_tn ?_
    refine wp_ret ?_
    refine x_tr ?_
    refine x_retc1 f rfl rfl rfl (ag rfl) rb7 rfl ?_
    -- return 0: ¬c12@15
    exact ⟨rfl, B0⟩

set_option maxRecDepth 10000 in
set_option maxHeartbeats 4000000 in
theorem pFree_no4 (w : World) (x : Hx) (cpu p : Int) (hx : x.At w) (hM : HMay x.hp) (hc : 0 ≤ cpu ∧ cpu ≤ x.cpus - 1) (hno : ∀ k, k < x.live.length → (x.live.getD k .zero).a ≠ p) :
    Calls Try.prog 15 #[.agg #[.slice x.zo x.zn x.zc, .slice x.mo x.mn x.mc, .int .i64 x.cpus, .slice x.lo x.ln x.lc, .slice x.vo x.vn x.vc], .int .i64 cpu, .int .i64 p] w fun e w' => e = .returned (.tuple #[.agg #[.slice none 0 0, .slice none 0 0, .int .i64 0, .slice none 0 0, .slice none 0 0], .int .i64 4]) ∧ Below w.heap.size w w' := by
  have HC : ∀ W, x.At W → Calls Try.prog 11 #[.agg #[.slice x.zo x.zn x.zc, .slice x.mo x.mn x.mc, .int .i64 x.cpus, .slice x.lo x.ln x.lc, .slice x.vo x.vn x.vc]] W fun e w' => e = .returned (.int .i64 0) ∧ Below W.heap.size W w' := fun W hW => (pCheck_any W x hW).mono fun e w1 h1 => by
    obtain ⟨⟨c, rfl, hc⟩, hb⟩ := h1
    rcases hc with ⟨rfl, _⟩ | ⟨_, hn⟩
    · exact ⟨rfl, hb⟩
    · exact absurd hM hn
  have HIx : ∀ (g : Nat) W, x.At W → St W ⟨g, 0, none⟩ (.int .i64 p) → Calls Try.prog 46 #[.slice x.vo x.vn x.vc, .func (.func 47) #[] #[.pointer (some ⟨g, 0, none⟩)]] W fun e w' => e = .returned (.int .i64 (-1)) ∧ Below W.heap.size W w' := fun g W hW hq => (freeIdx W x.vo x.vn x.vc g x.live p hW.live hq).mono fun e w1 h1 => by
    obtain ⟨h2, hb⟩ := h1
    refine ⟨?_, hb⟩
    rcases h2 with ⟨k, hk, rfl, h3, h4⟩ | ⟨rfl, h3⟩
    · exact absurd (of_decide_eq_true h3) (hno k hk)
    · rfl
  have B0 := Below.refl w.heap.size w
  refine sx_enter (args := [_, _, _]) 51 Try.func15 rfl rfl rfl ?_
  intro A f
  refine wp_seq ?_
  refine sx_list ?_
  refine l_box f rfl rfl rfl rfl rfl ?_; clear f A; intro b1 W2 eb1 hb3 rb1 A f; dsimp only [Value.cells] at rb1
  have z_B0_b1 := B0.size; rw [eb1] at z_B0_b1
  replace B0 := Below.next B0 hb3
  refine l_box f rfl rfl rfl rfl rfl ?_; clear f A; intro b4 W5 eb4 hb6 rb4 A f; dsimp only [Value.cells] at rb4
  have o_b1_b4 : b1 < b4 := by have := row_lt rb1; omega
  have z_B0_b4 := B0.size; rw [eb4] at z_B0_b4
  replace B0 := Below.next B0 hb6; replace rb1 := row_next rb1 hb6
  refine l_alloc (z := .agg #[.slice none 0 0, .slice none 0 0, .int .i64 0, .slice none 0 0, .slice none 0 0]) f rfl rfl rfl rfl (by kernel_rfl) ?_; clear f A; intro b7 W8 eb7 hb9 rb7 A f; dsimp only [Value.cells] at rb7
  have o_b1_b7 : b1 < b7 := by have := row_lt rb1; omega
  have o_b4_b7 : b4 < b7 := by have := row_lt rb4; omega
  have z_B0_b7 := B0.size; rw [eb7] at z_B0_b7
  replace B0 := Below.next B0 hb9; replace rb1 := row_next rb1 hb9; replace rb4 := row_next rb4 hb9
  refine l_do f rfl rfl rfl (y_assign rfl rfl) ?_; clear f A; intro A f
  refine wpList_nil ?_
  refine x_tn ?_
  refine wp_seq ?_
  refine wp_seq ?_
  refine sx_list ?_
  refine l_do f rfl rfl rfl (y_loadN (vs := [_, _, _, _, _]) rfl rfl (ag rfl) rfl (rowls (rowq rb1) _ _ ⟨rfl, rfl, rfl, rfl, rfl, trivial⟩)) ?_; clear f A; intro A f
  refine l_call f rfl rfl rfl (IsCall.mk' (cap := []) rfl rfl rfl) (pl rfl) (HC _ (hx.below B0)) ?_; clear f A; rintro _ W11 ⟨rfl, hb10⟩; refine ⟨_, rfl, ?_⟩; intro A f; replace B0 := Below.next B0 hb10; replace rb1 := row_next rb1 hb10; replace rb4 := row_next rb4 hb10; replace rb7 := row_next rb7 hb10
  refine l_do f rfl rfl rfl (y_assign rfl rfl) ?_; clear f A; intro A f
  refine wpList_nil ?_
  refine x_tn ?_
  refine wp_seq ?_
  refine sx_list ?_
  refine l_do f rfl rfl rfl (y_move rfl rfl) ?_; clear f A; intro A f
  refine l_if _ f rfl rfl rfl (y_neq rfl rfl rfl) ?_ ?_
  · intro c12; exfalso; omega
  · clear f A; intro c12 A f
    refine wpList_nil ?_
    refine x_tn ?_
    refine x_condF f rfl ?_
    refine wp_skip ?_
    refine x_tn ?_
    refine wp_seq ?_
    refine wp_seq ?_
    refine sx_list ?_
    refine l_do f rfl rfl rfl (y_loadN (vs := [_, _, _, _, _]) rfl rfl (ag rfl) rfl (rowls (rowq rb1) _ _ ⟨rfl, rfl, rfl, rfl, rfl, trivial⟩)) ?_; clear f A; intro A f
    refine l_do f rfl rfl rfl (y_move rfl rfl) ?_; clear f A; intro A f
    refine l_call f rfl rfl rfl (IsCall.mk' (cap := []) rfl rfl rfl) (pl rfl) (by have e := pIsCpu_any W11 (.slice x.zo x.zn x.zc) (.slice x.mo x.mn x.mc) (.slice x.lo x.ln x.lc) (.slice x.vo x.vn x.vc) x.cpus cpu; rw [inB_t hc] at e; exact e) ?_; clear f A; rintro _ W13 ⟨rfl, hb14⟩; refine ⟨_, rfl, ?_⟩; intro A f; replace B0 := Below.next B0 hb14; replace rb1 := row_next rb1 hb14; replace rb4 := row_next rb4 hb14; replace rb7 := row_next rb7 hb14
    refine l_do f rfl rfl rfl (y_not rfl rfl) ?_; clear f A; intro A f
    refine wpList_nil ?_
    refine x_tn ?_
    refine x_condF f rfl ?_
    refine wp_skip ?_
    refine x_tn ?_
    refine wp_seq ?_
    refine sx_list ?_
    refine l_do f rfl rfl rfl (y_field rfl rfl (fo rfl)) ?_; clear f A; intro A f
    refine l_do f rfl rfl rfl (y_load1 rfl rfl (ag rfl) (rowl (rowq rb1) rfl)) ?_; clear f A; intro A f
    refine l_do f rfl rfl rfl (y_func rfl rfl) ?_; clear f A; intro A f
    have HI := HIx _ _ (hx.below B0) (St.of (by rw [cell_of_row _ _ _ _ _ _ rb4]; rfl))
    refine l_call f rfl rfl rfl (IsCall.mk' (cap := []) rfl rfl rfl) (pl rfl) HI ?_; clear f A; rintro _ W15 ⟨rfl, hb16⟩; refine ⟨_, rfl, ?_⟩; intro A f; replace B0 := Below.next B0 hb16; replace rb1 := row_next rb1 hb16; replace rb4 := row_next rb4 hb16; replace rb7 := row_next rb7 hb16
    refine l_do f rfl rfl rfl (y_assign rfl rfl) ?_; clear f A; intro A f
    refine wpList_nil ?_
    refine x_tn ?_
    refine wp_seq ?_
    refine wp_seq ?_
    refine sx_list ?_
    refine l_do f rfl rfl rfl (y_move rfl rfl) ?_; clear f A; intro A f
    refine l_if _ f rfl rfl rfl (y_lss rfl rfl rfl) ?_ ?_
    · clear f A; intro c17 A f
      refine wpList_nil ?_
      refine x_tn ?_
      refine x_condT f rfl ?_
      refine wp_seq ?_
      refine sx_list ?_
      refine l_do f rfl rfl rfl (y_build #[.slice none 0 0, .slice none 0 0, .int .i64 0, .slice none 0 0, .slice none 0 0] rfl rfl (by kernel_rfl)) ?_; clear f A; intro A f
      refine l_store f rfl rfl rfl rfl rfl rb7 (sz rfl) rfl (Nat.le_of_ble_eq_true rfl) rfl ?_
      clear rb7; intro W18 hb19 rb7; dsimp only [setL, over, Value.cells] at rb7; replace B0 := Below.thenBut B0 hb19 (by omega); replace rb1 := But.row hb19 rb1 (by omega); replace rb4 := But.row hb19 rb4 (by omega)
      refine l_do f rfl rfl rfl (y_assign rfl rfl) ?_; clear f A; intro A f
      refine wpList_nil ?_
      refine x_tn ?_
      refine wp_ret ?_
      refine x_tr ?_
      refine x_retc1 f rfl rfl rfl (ag rfl) rb7 rfl ?_
      -- return 0: ¬c12@15 c17@28
      exact ⟨rfl, B0⟩
    · intro c17; exfalso; omega

theorem hmid_live {x y : Hx} (h : HMid x.hp) (e : y.hp = x.hp) (l : List Bk) (n : Nat) : HMid (y.withV l n).hp := by
  rw [← e] at h
  exact ⟨⟨h.zs.n, h.zs.m0, h.zs.m1, h.zs.f0, h.zs.f1, h.zs.t1⟩, ⟨fun i hi => ⟨(h.ls.ok i hi).c, (h.ls.ok i hi).z, (h.ls.ok i hi).t, (h.ls.ok i hi).n, (h.ls.ok i hi).p⟩, h.ls.ord⟩, h.cpus, h.cnt⟩
theorem live_back {x y : Hx} (h : HMay x.hp) {n : Nat} {i : Nat} (hm : HMid (y.withV (y.live.eraseIdx i) n).hp) (e : y.hp = x.hp) (hi : i < x.live.length) {a o t : Int} (hb : x.live.getD i .zero = ⟨a, o, t⟩) : CanBack (y.withV (y.live.eraseIdx i) n).hp a o := by
  have hl := h.lv.ok i hi
  rw [show x.hp.live = x.live from rfl, hb] at hl
  have hg := fun p => cnt_ge (l := x.live) hi p
  rw [hb] at hg
  exact (backH_ok (H := (y.withV (y.live.eraseIdx i) n).hp) hm.zs (a := a) (o := o) hl.o hl.m hl.a.1 hl.a.2 (fun p => by
    have h1 := h.cntLe p
    have h2 : hit a o p ≤ Kit.cnt x.live p := hg p
    have h3 : zcnt (y.withV (y.live.eraseIdx i) n).hp p = zcnt x.hp p := by rw [← e]; rfl
    rw [h3]
    have h4 : Kit.cnt x.hp.live p = Kit.cnt x.live p := rfl
    omega)).1
theorem HOwn.but10 {w w' : World} {B gz gl gv b : Nat} {y : Hx} (h : HOwn w B gz gl gv y) (hb : But b w w') (a : AwayL b y) (h1 : gz ≠ b) (h2 : ∀ a, y.lo = some a → a.block ≠ b) (h3 : gv ≠ b) : HOwn w' B gz gl gv y :=
  ⟨owns_butN h.oz hb (fun a ha => by rw [h.ez] at ha; cases ha; exact h1), owns_butN h.ol hb h2, owns_butN h.ov hb (fun a ha => by rw [h.ev a ha]; exact h3), h.ez, h.el, h.ev,
   ⟨zons_but h.at_.zones hb a.z a.f a.t, nums_but h.at_.mins hb a.m, ⟨h.at_.lists.len, h.at_.lists.reach, h.at_.lists.cells.but hb h2, fun l hl => nums_but (h.at_.lists.at_ l hl) hb (a.p l hl)⟩, blks_but h.at_.live hb a.v⟩,
   h.zl, h.zv, h.lv, h.zoff, h.loff, h.moff, h.mfresh, h.gzB, h.glB, h.gvB⟩
theorem HOwn.liveLt {w : World} {B gz gl gv : Nat} {y : Hx} (h : HOwn w B gz gl gv y) (h0 : 0 < y.vn) : gv < w.heap.size := by
  rcases h.ov.2 with ⟨_, e2⟩ | ⟨g, cap', cur, e1, _⟩
  · omega
  · simp only [Value.slice.injEq] at e1
    have h1 := h.ev _ e1.1
    have h2 := (owns_blk h.ov _ e1.1).2.1
    omega

set_option maxRecDepth 10000 in
set_option maxHeartbeats 4000000 in
theorem pFree_ok (w : World) (x : Hx) (cpu p : Int) (i : Nat) (hx : x.At w) (hM : HMay x.hp) (hc : 0 ≤ cpu ∧ cpu ≤ x.cpus - 1) (hi : i < x.live.length) (hia : (x.live.getD i .zero).a = p) (hfst : ∀ k, k < i → (x.live.getD k .zero).a ≠ p) :
    Calls Try.prog 15 #[.agg #[.slice x.zo x.zn x.zc, .slice x.mo x.mn x.mc, .int .i64 x.cpus, .slice x.lo x.ln x.lc, .slice x.vo x.vn x.vc], .int .i64 cpu, .int .i64 p] w fun e w' => (∃ y2 : Hx, e = .returned (.tuple #[.agg #[.slice y2.zo y2.zn y2.zc, .slice y2.mo y2.mn y2.mc, .int .i64 y2.cpus, .slice y2.lo y2.ln y2.lc, .slice y2.vo y2.vn y2.vc], .int .i64 0]) ∧ y2.At w' ∧ y2.hp = releaseH { x.hp with live := x.hp.live.eraseIdx i } cpu (x.live.getD i .zero)) ∧ Below w.heap.size w w' := by
  have HC : ∀ W, x.At W → Calls Try.prog 11 #[.agg #[.slice x.zo x.zn x.zc, .slice x.mo x.mn x.mc, .int .i64 x.cpus, .slice x.lo x.ln x.lc, .slice x.vo x.vn x.vc]] W fun e w' => e = .returned (.int .i64 0) ∧ Below W.heap.size W w' := fun W hW => (pCheck_any W x hW).mono fun e w1 h1 => by
    obtain ⟨⟨c, rfl, hc⟩, hb⟩ := h1
    rcases hc with ⟨rfl, _⟩ | ⟨_, hn⟩
    · exact ⟨rfl, hb⟩
    · exact absurd hM hn
  have HIx : ∀ (g : Nat) W, x.At W → St W ⟨g, 0, none⟩ (.int .i64 p) → Calls Try.prog 46 #[.slice x.vo x.vn x.vc, .func (.func 47) #[] #[.pointer (some ⟨g, 0, none⟩)]] W fun e w' => e = .returned (.int .i64 (i : Nat)) ∧ Below W.heap.size W w' := fun g W hW hq => (freeIdx W x.vo x.vn x.vc g x.live p hW.live hq).mono fun e w1 h1 => by
    obtain ⟨h2, hb⟩ := h1
    refine ⟨?_, hb⟩
    rcases h2 with ⟨k, hk, rfl, h3, h4⟩ | ⟨rfl, h3⟩
    · have : k = i := by
        rcases Nat.lt_trichotomy k i with g | g | g
        · exact absurd (of_decide_eq_true h3) (hfst k g)
        · exact g
        · exact absurd hia (of_decide_eq_false (h4 i g))
      rw [this]
    · exact absurd hia (of_decide_eq_false (h3 i hi))
  have hlf := live_few hM.lv
  have hxl := hx.live.len
  rw [show x.hp.live = x.live from rfl] at hlf
  have B0 := Below.refl w.heap.size w
  refine sx_enter (args := [_, _, _]) 51 Try.func15 rfl rfl rfl ?_
  intro A f
  refine wp_seq ?_
  refine sx_list ?_
  refine l_box f rfl rfl rfl rfl rfl ?_; clear f A; intro b1 W2 eb1 hb3 rb1 A f; dsimp only [Value.cells] at rb1
  have z_B0_b1 := B0.size; rw [eb1] at z_B0_b1
  replace B0 := Below.next B0 hb3
  refine l_box f rfl rfl rfl rfl rfl ?_; clear f A; intro b4 W5 eb4 hb6 rb4 A f; dsimp only [Value.cells] at rb4
  have o_b1_b4 : b1 < b4 := by have := row_lt rb1; omega
  have z_B0_b4 := B0.size; rw [eb4] at z_B0_b4
  replace B0 := Below.next B0 hb6; replace rb1 := row_next rb1 hb6
  refine l_alloc (z := .agg #[.slice none 0 0, .slice none 0 0, .int .i64 0, .slice none 0 0, .slice none 0 0]) f rfl rfl rfl rfl (by kernel_rfl) ?_; clear f A; intro b7 W8 eb7 hb9 rb7 A f; dsimp only [Value.cells] at rb7
  have o_b1_b7 : b1 < b7 := by have := row_lt rb1; omega
  have o_b4_b7 : b4 < b7 := by have := row_lt rb4; omega
  have z_B0_b7 := B0.size; rw [eb7] at z_B0_b7
  replace B0 := Below.next B0 hb9; replace rb1 := row_next rb1 hb9; replace rb4 := row_next rb4 hb9
  refine l_do f rfl rfl rfl (y_assign rfl rfl) ?_; clear f A; intro A f
  refine wpList_nil ?_
  refine x_tn ?_
  refine wp_seq ?_
  refine wp_seq ?_
  refine sx_list ?_
  refine l_do f rfl rfl rfl (y_loadN (vs := [_, _, _, _, _]) rfl rfl (ag rfl) rfl (rowls (rowq rb1) _ _ ⟨rfl, rfl, rfl, rfl, rfl, trivial⟩)) ?_; clear f A; intro A f
  refine l_call f rfl rfl rfl (IsCall.mk' (cap := []) rfl rfl rfl) (pl rfl) (HC _ (hx.below B0)) ?_; clear f A; rintro _ W11 ⟨rfl, hb10⟩; refine ⟨_, rfl, ?_⟩; intro A f; replace B0 := Below.next B0 hb10; replace rb1 := row_next rb1 hb10; replace rb4 := row_next rb4 hb10; replace rb7 := row_next rb7 hb10
  refine l_do f rfl rfl rfl (y_assign rfl rfl) ?_; clear f A; intro A f
  refine wpList_nil ?_
  refine x_tn ?_
  refine wp_seq ?_
  refine sx_list ?_
  refine l_do f rfl rfl rfl (y_move rfl rfl) ?_; clear f A; intro A f
  refine l_if _ f rfl rfl rfl (y_neq rfl rfl rfl) ?_ ?_
  · intro c12; exfalso; omega
  · clear f A; intro c12 A f
    refine wpList_nil ?_
    refine x_tn ?_
    refine x_condF f rfl ?_
    refine wp_skip ?_
    refine x_tn ?_
    refine wp_seq ?_
    refine wp_seq ?_
    refine sx_list ?_
    refine l_do f rfl rfl rfl (y_loadN (vs := [_, _, _, _, _]) rfl rfl (ag rfl) rfl (rowls (rowq rb1) _ _ ⟨rfl, rfl, rfl, rfl, rfl, trivial⟩)) ?_; clear f A; intro A f
    refine l_do f rfl rfl rfl (y_move rfl rfl) ?_; clear f A; intro A f
    refine l_call f rfl rfl rfl (IsCall.mk' (cap := []) rfl rfl rfl) (pl rfl) (by have e := pIsCpu_any W11 (.slice x.zo x.zn x.zc) (.slice x.mo x.mn x.mc) (.slice x.lo x.ln x.lc) (.slice x.vo x.vn x.vc) x.cpus cpu; rw [inB_t hc] at e; exact e) ?_; clear f A; rintro _ W13 ⟨rfl, hb14⟩; refine ⟨_, rfl, ?_⟩; intro A f; replace B0 := Below.next B0 hb14; replace rb1 := row_next rb1 hb14; replace rb4 := row_next rb4 hb14; replace rb7 := row_next rb7 hb14
    refine l_do f rfl rfl rfl (y_not rfl rfl) ?_; clear f A; intro A f
    refine wpList_nil ?_
    refine x_tn ?_
    refine x_condF f rfl ?_
    refine wp_skip ?_
    refine x_tn ?_
    refine wp_seq ?_
    refine sx_list ?_
    refine l_do f rfl rfl rfl (y_field rfl rfl (fo rfl)) ?_; clear f A; intro A f
    refine l_do f rfl rfl rfl (y_load1 rfl rfl (ag rfl) (rowl (rowq rb1) rfl)) ?_; clear f A; intro A f
    refine l_do f rfl rfl rfl (y_func rfl rfl) ?_; clear f A; intro A f
    have HI := HIx _ _ (hx.below B0) (St.of (by rw [cell_of_row _ _ _ _ _ _ rb4]; rfl))
    refine l_call f rfl rfl rfl (IsCall.mk' (cap := []) rfl rfl rfl) (pl rfl) HI ?_; clear f A; rintro _ W15 ⟨rfl, hb16⟩; refine ⟨_, rfl, ?_⟩; intro A f; replace B0 := Below.next B0 hb16; replace rb1 := row_next rb1 hb16; replace rb4 := row_next rb4 hb16; replace rb7 := row_next rb7 hb16
    refine l_do f rfl rfl rfl (y_assign rfl rfl) ?_; clear f A; intro A f
    refine wpList_nil ?_
    refine x_tn ?_
    refine wp_seq ?_
    refine wp_seq ?_
    refine sx_list ?_
    refine l_do f rfl rfl rfl (y_move rfl rfl) ?_; clear f A; intro A f
    refine l_if _ f rfl rfl rfl (y_lss rfl rfl rfl) ?_ ?_
    · intro c17; exfalso; omega
    · clear f A; intro c17 A f
      refine wpList_nil ?_
      refine x_tn ?_
      refine x_condF f rfl ?_
      refine wp_skip ?_
      refine x_tn ?_
      refine wp_seq ?_
      refine sx_list ?_
      refine l_do f rfl rfl rfl (y_loadN (vs := [_, _, _, _, _]) rfl rfl (ag rfl) rfl (rowls (rowq rb1) _ _ ⟨rfl, rfl, rfl, rfl, rfl, trivial⟩)) ?_; clear f A; intro A f
      have lc_b1 := row_lt rb1
      have lc_b4 := row_lt rb4
      have lc_b7 := row_lt rb7
      obtain ⟨B, hBd⟩ : ∃ B, B = W15.heap.size := ⟨_, rfl⟩
      have hBw := B0.size
      refine l_call f rfl rfl rfl (IsCall.mk' (cap := []) rfl rfl rfl) (pl rfl) (pCopy_own _ x (hx.below B0)) ?_
      clear f A
      rintro _ W18 ⟨⟨gz, gl, gv, y, rfl, ey, O⟩, hb19⟩
      refine ⟨_, rfl, ?_⟩
      intro A f
      have hcs := hb19.size
      rw [← hBd] at O
      replace B0 := Below.next B0 hb19; replace rb1 := row_next rb1 hb19; replace rb4 := row_next rb4 hb19; replace rb7 := row_next rb7 hb19
      have evl : y.live = x.live := congrArg Hp.live ey
      have hvn : y.vn = x.vn := by have h1 := O.at_.live.len; have h2 := hx.live.len; rw [evl] at h1; omega
      have hyz : 0 < y.zn := by have h1 := O.at_.zones.len; have h2 : y.hp.zones.length = y.zs.length := (by show (y.zs.map _).length = _; rw [List.length_map]); rw [ey] at h2; have h3 := hM.zs.n; omega
      have O10 := O
      have s10 : W18.heap.size = W18.heap.size := rfl
      refine l_as (z := .agg #[.slice none 0 0, .slice none 0 0, .int .i64 0, .slice none 0 0, .slice none 0 0]) f rfl rfl rfl rfl (by kernel_rfl) rfl rfl (fun _ => rfl) (fun _ => rfl) rfl (by intro u hu; simp [Value.cells] at hu; rcases hu with rfl | rfl | rfl | rfl | rfl <;> rfl) ?_; clear f A; intro b20 W21 eb20 hb22 rb20 A f
      dsimp only [Value.cells] at rb20
      have hpb20 := hb22
      have o_b1_b20 : b1 < b20 := by have := row_lt rb1; omega
      have o_b4_b20 : b4 < b20 := by have := row_lt rb4; omega
      have o_b7_b20 : b7 < b20 := by have := row_lt rb7; omega
      have z_B0_b20 := B0.size; rw [eb20] at z_B0_b20
      replace B0 := Below.next B0 hb22; replace O := O.below hb22; replace rb1 := row_next rb1 hb22; replace rb4 := row_next rb4 hb22; replace rb7 := row_next rb7 hb22
      refine wpList_nil ?_
      refine x_tn ?_
      refine wp_seq ?_
      refine sx_list ?_
      have aw10L : AwayL b20 y := awayL_old O10.at_ (by omega)
      have lgz : gz < b20 := by have h1 := O10.hz.lt hyz; omega
      have lgB := O10.gzB
      have lgl : ∀ a, y.lo = some a → a.block ≠ b20 := fun a ha => by have := (owns_blk O10.ol a ha).2.1; omega
      have lgv : gv < b20 := by have h1 := O10.liveLt (by omega); omega
      clear O10
      refine l_do f rfl rfl rfl (y_field rfl rfl (fo rfl)) ?_; clear f A; intro A f
      refine l_do f rfl rfl rfl (y_load1 rfl rfl (ag rfl) (rowl (rowq rb20) rfl)) ?_; clear f A; intro A f
      refine l_do f rfl rfl rfl (y_move rfl rfl) ?_; clear f A; intro A f
      refine l_do f rfl rfl rfl (y_move rfl rfl) ?_; clear f A; intro A f
      refine l_do f rfl rfl rfl (y_add rfl rfl rfl rfl (by omega)) ?_; clear f A; intro A f
      have ld_b1 := row_lt rb1
      have ld_b4 := row_lt rb4
      have ld_b7 := row_lt rb7
      have ld_b20 := row_lt rb20
      refine l_call f rfl rfl rfl (IsCall.mk' (cap := []) rfl rfl rfl) (pl rfl) (bDel_all _ B y.vn y.vc i y.vo y.live (by omega) (by omega) O.ov) ?_
      clear f A
      rintro _ W23 ⟨g, hg, rfl, ov1, hb24⟩
      refine ⟨_, rfl, ?_⟩
      intro A f
      have hgg : g = gv := O.ev _ hg
      rw [hgg] at hb24
      have hgvB := O.gvB
      replace O := O.withV hb24 ov1 (by have := O.at_.live.reach; omega)
      replace B0 := Below.thenBut B0 hb24 (by omega); replace rb1 := But.row hb24 rb1 (by omega); replace rb4 := But.row hb24 rb4 (by omega); replace rb7 := But.row hb24 rb7 (by omega); replace rb20 := But.row hb24 rb20 (by omega)
      refine l_do f rfl rfl rfl (y_field rfl rfl (fo rfl)) ?_; clear f A; intro A f
      refine l_store f rfl rfl rfl rfl rfl rb20 (sz rfl) rfl (Nat.le_of_ble_eq_true rfl) rfl ?_
      clear rb20; intro W25 hb26 rb20; dsimp only [setL, over, Value.cells] at rb20; replace B0 := Below.thenBut B0 hb26 (by omega); replace rb1 := But.row hb26 rb1 (by omega); replace rb4 := But.row hb26 rb4 (by omega); replace rb7 := But.row hb26 rb7 (by omega); have aw10V : AwayL b20 (y.withV (y.live.eraseIdx i) (y.vn - 1)) := ⟨aw10L.z, aw10L.f, aw10L.t, aw10L.m, aw10L.p, fun _ a ha => by rw [O.ev a ha]; omega⟩
      replace O := O.but10 hb26 aw10V (by omega) lgl (by omega)
      refine wpList_nil ?_
      refine x_tn ?_
      refine wp_seq ?_
      refine wp_seq ?_
      refine sx_list ?_
      refine l_do f rfl rfl rfl (y_move rfl rfl) ?_; clear f A; intro A f
      refine l_do f rfl rfl rfl (y_field rfl rfl (fo rfl)) ?_; clear f A; intro A f
      refine l_do f rfl rfl rfl (y_load1 rfl rfl (ag rfl) (rowl (rowq rb1) rfl)) ?_; clear f A; intro A f
      refine l_do f rfl rfl rfl (y_move rfl rfl) ?_; clear f A; intro A f
      obtain ⟨gb, ob, bab, bob, btb, hab, c0b, c1b, c2b, hXb⟩ := hx.live.at_.at (i) (by have := hx.live.len; omega)
      replace c0b := St.of c0b; replace c1b := St.of c1b; replace c2b := St.of c2b
      refine l_do f rfl rfl rfl (y_index rfl rfl (by first | rfl | assumption) rfl (es rfl) (by omega)) ?_; clear f A; intro A f
      refine l_do f rfl rfl rfl (y_loadN (vs := [_, _, _]) rfl rfl (ag rfl) rfl ⟨(by first | assumption | exact St.q c0b B0 | exact St.q c1b B0 | exact St.q c2b B0), (by first | assumption | exact St.q c0b B0 | exact St.q c1b B0 | exact St.q c2b B0), (by first | assumption | exact St.q c0b B0 | exact St.q c1b B0 | exact St.q c2b B0), trivial⟩) ?_; clear f A; intro A f
      have lr6 := row_lt rb7
      have lr10 := row_lt rb20
      obtain ⟨gL, e1, e2, e3, e4, e5⟩ := O.rowL (c := b1) (by omega) (by omega)
      have hglB := O.glB
      have hzlt : gz < W25.heap.size := by omega
      have hm : HMid (y.withV (y.live.eraseIdx i) (y.vn - 1)).hp := hmid_live (HMid.of hM) ey _ _
      have hbk : x.live.getD i .zero = ⟨bab, bob, btb⟩ := hXb.out
      have hlo := hM.lv.ok i hi
      rw [show x.hp.live = x.live from rfl, hbk] at hlo
      have hgL10 : b20 ≠ gL := by rcases e5 with ⟨e, a, ha⟩ | e; (have g1 := lgl a ha; have g2 := O.el a ha; omega); omega
      have hgL6 : b7 ≠ gL := by rcases e5 with ⟨e, _⟩ | e <;> omega
      have hgLw : w.heap.size ≤ gL := by rcases e5 with ⟨e, _⟩ | e <;> omega
      refine l_call f rfl rfl rfl (IsCall.mk' (cap := []) rfl rfl rfl) (pl rfl) (pRelease_ok _ B gz gL b20 (y.withV (y.live.eraseIdx i) (y.vn - 1)) cpu bab bob btb rb20 O.hz O.ol e1 e2 aw10V (by omega) hgL10 e3 e4 hzlt (fun l hl => (O.loff l hl).2.2) hm hlo.a (by omega) hlo.o.1 (fun _ => live_back hM hm ey hi hbk)) ?_
      clear f A
      rintro _ W27 ⟨rfl, y2, rh2, hAt2, hy2, hex, haw, hzo⟩
      refine ⟨_, rfl, ?_⟩
      intro A f
      have aw6 := haw b7 (by omega) hgL6 (O.away (by omega))
      have hz6 : ∀ c, y2.zo = some c → c.block ≠ b7 := fun c hc => by rw [hzo] at hc; have h1 : (y.withV (y.live.eraseIdx i) (y.vn - 1)).zo = some ⟨gz, 0, none⟩ := O.ez; rw [h1] at hc; cases hc; dsimp only; omega
      replace B0 := B0.trans (hex.belowB (fun k hk => by rcases hk with e | e | e <;> omega) (by omega))
      replace rb7 := hex.row rb7 (by rintro (e | e | e) <;> omega)
      clear hex haw
      refine l_do f rfl rfl rfl (y_assign rfl rfl) ?_; clear f A; intro A f
      refine wpList_nil ?_
      refine x_tn ?_
      refine wp_seq ?_
      refine sx_list ?_
      refine l_do f rfl rfl rfl (y_move rfl rfl) ?_; clear f A; intro A f
      refine l_if _ f rfl rfl rfl (y_neq rfl rfl rfl) ?_ ?_
      · intro c28; exfalso; omega
      · clear f A; intro c28 A f
        refine wpList_nil ?_
        refine x_tn ?_
        refine x_condF f rfl ?_
        refine wp_skip ?_
        refine x_tn ?_
        refine wp_seq ?_
        refine sx_list ?_
        refine l_do f rfl rfl rfl (y_loadN (vs := [_, _, _, _, _]) rfl rfl (ag rfl) rfl (rowls (rowq rh2) _ _ ⟨rfl, rfl, rfl, rfl, rfl, trivial⟩)) ?_; clear f A; intro A f
        refine l_store f rfl rfl rfl rfl rfl rb7 (sz rfl) rfl (Nat.le_of_ble_eq_true rfl) rfl ?_
        clear rb7; intro W29 hb30 rb7; dsimp only [setL, over, Value.cells] at rb7; replace B0 := Below.thenBut B0 hb30 (by omega); replace rh2 := But.row hb30 rh2 (by omega); replace hAt2 := at_butA hAt2 hb30 aw6 hz6
        refine l_do f rfl rfl rfl (y_assign rfl rfl) ?_; clear f A; intro A f
        refine wpList_nil ?_
        refine x_tn ?_
        refine wp_ret ?_
        refine x_retc1 f rfl rfl rfl (ag rfl) rb7 rfl ?_
        -- return 0: ¬c12@15 ¬c17@28 ¬c28@47
        exact ⟨⟨y2, rfl, hAt2, hy2.trans (by rw [show (y.withV (y.live.eraseIdx i) (y.vn - 1)).hp = { x.hp with live := x.hp.live.eraseIdx i } from by rw [← ey]; rfl, hbk])⟩, B0⟩


end Go.Proofs.Ytbjlbmofdnkmiaa

/-
  OWN TEXT. The pages of a list are others, as the document's answer makes them: list by list: plain; and a list is put behind others, in memory.
-/
namespace Go.Proofs.Ytbjlbmofdnkmiaa
open Go Go.RowKit Go.Proofs.Ytbjlbmofdnkmiaa.Kit

def setStep (x : Ls) (s : List Ls × Bool) (a : Ls) : List Ls × Bool :=
  if a.c = x.c ∧ a.z = x.z ∧ a.t = x.t then
    (if (if s.2 = false ∧ aheadL x a then (s.1 ++ [x], true) else s).2 = false then ((if s.2 = false ∧ aheadL x a then (s.1 ++ [x], true) else s).1 ++ [x], true) else (if s.2 = false ∧ aheadL x a then (s.1 ++ [x], true) else s))
  else ((if s.2 = false ∧ aheadL x a then (s.1 ++ [x], true) else s).1 ++ [a], (if s.2 = false ∧ aheadL x a then (s.1 ++ [x], true) else s).2)
def setFold (x : Ls) (l : List Ls) : List Ls × Bool := l.foldl (setStep x) ([], decide (x.pages.length = 0))
theorem setFold_succ (x : Ls) (l : List Ls) (k : Nat) (h : k < l.length) {a : Ls} (e : l.getD k .zero = a) : setFold x (l.take (k + 1)) = setStep x (setFold x (l.take k)) a := by
  rw [List.getD_eq_getElem?_getD, List.getElem?_eq_getElem h] at e
  simp only [Option.getD_some] at e
  unfold setFold
  rw [List.take_succ_eq_append_getElem h, List.foldl_append, e]
  rfl
theorem setFold_inv {l : List Ls} (hr : RiseP l) (x : Ls) : ∀ k, k ≤ l.length →
    (setFold x (l.take k)).1 = (l.take k).filter (fun a => decide (aheadL a x)) ++ ((if (setFold x (l.take k)).2 = true ∧ x.pages.length ≠ 0 then [x] else []) ++ (l.take k).filter (fun a => decide (aheadL x a))) ∧
    ((setFold x (l.take k)).2 = false ↔ x.pages.length ≠ 0 ∧ ∀ a ∈ l.take k, aheadL a x) := by
  intro k
  induction k with
  | zero =>
    intro _
    refine ⟨?_, ?_⟩
    · show ([] : List Ls) = _
      by_cases h : x.pages.length = 0 <;> simp [setFold, h]
    · simp [setFold]
  | succ k ih =>
    intro hk
    obtain ⟨i1, i2⟩ := ih (by omega)
    obtain ⟨a, ea⟩ : ∃ a, l.getD k .zero = a := ⟨_, rfl⟩
    have hT : ∀ b ∈ l.take k, aheadL b a := fun b hb => by
      obtain ⟨j, hj, _, rfl⟩ := getD_take_mem hb
      rw [← ea]
      exact rise_lt hr hj (by omega)
    rw [setFold_succ x l k (by omega) ea]
    have et : l.take (k + 1) = l.take k ++ [a] := by
      rw [← ea, List.getD_eq_getElem?_getD, List.getElem?_eq_getElem (by omega : k < l.length), List.take_succ_eq_append_getElem (by omega : k < l.length)]
      rfl
    rw [et]
    obtain ⟨T, hTe⟩ : ∃ T, l.take k = T := ⟨_, rfl⟩
    obtain ⟨s, hs⟩ : ∃ s, setFold x (l.take k) = s := ⟨_, rfl⟩
    rw [hs] at i1 i2 ⊢
    rw [hTe] at i1 i2 hT ⊢
    clear hs hTe et
    obtain ⟨o, d⟩ := s
    dsimp only at i1 i2
    have hno : (∀ b ∈ T, aheadL b x) → T.filter (fun a => decide (aheadL x a)) = [] := fun g => filter_none (fun b hb => decide_eq_false (ahead_asymm (g b hb)))
    rw [List.filter_append, List.filter_append]
    rcases ahead_three a x with g | g | g
    · have gT : ∀ b ∈ T, aheadL b x := fun b hb => ahead_trans (hT b hb) g
      have g1 := ahead_asymm g
      have g2 : ¬ (a.c = x.c ∧ a.z = x.z ∧ a.t = x.t) := fun h => by unfold aheadL at g; omega
      rw [hno gT] at i1 ⊢
      have i3 : d = false ↔ x.pages.length ≠ 0 := ⟨fun h => (i2.1 h).1, fun h => i2.2 ⟨h, gT⟩⟩
      have hite : ¬ (d = true ∧ x.pages.length ≠ 0) := fun h => by have := i3.2 h.2; rw [this] at h; cases h.1
      rw [if_neg hite] at i1
      unfold setStep
      rw [if_neg g2, if_neg (fun h => g1 h.2)]
      dsimp only
      rw [if_neg hite, i1]
      refine ⟨by simp [g, g1], ?_⟩
      rw [i3]
      simp only [List.mem_append, List.mem_singleton]
      constructor
      · intro h
        refine ⟨h, fun b hb => ?_⟩
        rcases hb with hb | rfl
        · exact gT b hb
        · exact g
      · exact fun h => h.1
    · have g1 := ahead_asymm g
      have g2 : ¬ (a.c = x.c ∧ a.z = x.z ∧ a.t = x.t) := fun h => by unfold aheadL at g; omega
      have hr2 : ∀ d' : Bool, d' = true → (d' = false ↔ x.pages.length ≠ 0 ∧ ∀ b ∈ T ++ [a], aheadL b x) := fun d' h => by
        subst h
        simp only [Bool.true_eq_false, false_iff]
        exact fun h => g1 (h.2 a (by simp))
      unfold setStep
      rw [if_neg g2]
      by_cases hd : d = false
      · obtain ⟨p1, p2⟩ := i2.1 hd
        subst hd
        rw [hno p2] at i1 ⊢
        rw [if_pos ⟨rfl, g⟩]
        refine ⟨?_, hr2 _ rfl⟩
        dsimp only
        rw [i1]
        simp [g, g1, p1]
      · have hd' : d = true := by simpa using hd
        subst hd'
        rw [if_neg (fun h => hd h.1)]
        refine ⟨?_, hr2 _ rfl⟩
        dsimp only
        rw [i1]
        simp [g, g1]
    · have g1 : ¬ aheadL a x := fun h => by unfold aheadL at h; omega
      have g2 : ¬ aheadL x a := fun h => by unfold aheadL at h; omega
      have hr2 : ∀ d' : Bool, d' = true → (d' = false ↔ x.pages.length ≠ 0 ∧ ∀ b ∈ T ++ [a], aheadL b x) := fun d' h => by
        subst h
        simp only [Bool.true_eq_false, false_iff]
        exact fun h => g1 (h.2 a (by simp))
      have hne : ¬ ((o, d).2 = false ∧ aheadL x a) := fun h => g2 h.2
      unfold setStep
      rw [if_pos g, if_neg hne]
      by_cases hd : d = false
      · obtain ⟨p1, p2⟩ := i2.1 hd
        subst hd
        rw [hno p2] at i1 ⊢
        rw [if_pos rfl]
        refine ⟨?_, hr2 _ rfl⟩
        dsimp only
        rw [i1]
        simp [g1, g2, p1]
      · have hd' : d = true := by simpa using hd
        subst hd'
        rw [if_neg hd]
        refine ⟨?_, hr2 _ rfl⟩
        dsimp only
        rw [i1]
        simp [g1, g2]
/-- List by list, the same comes of it. -/
theorem setFold_eq {l : List Ls} (hr : RiseP l) (x : Ls) : (if (setFold x l).2 = false then (setFold x l).1 ++ [x] else (setFold x l).1) = setLs l x := by
  obtain ⟨i1, i2⟩ := setFold_inv hr x l.length (Nat.le_refl _)
  rw [List.take_of_length_le (Nat.le_refl _)] at i1 i2
  unfold setLs
  by_cases h : (setFold x l).2 = false
  · obtain ⟨p1, p2⟩ := i2.1 h
    rw [if_pos h, i1, h, if_neg p1, filter_none (l := l) (p := fun a => decide (aheadL x a)) (fun b hb => decide_eq_false (ahead_asymm (p2 b hb)))]
    simp
  · rw [if_neg h, i1]
    have h' : (setFold x l).2 = true := by simpa using h
    rw [h']
    by_cases hp : x.pages.length = 0
    · rw [if_neg (fun g => g.2 hp), if_pos hp]
    · rw [if_pos ⟨rfl, hp⟩, if_neg hp]

/-- One more list behind the others, in memory of one's own. -/
theorem appL_run (w : World) (ty : TypeId) (base : Nat) (uo : Option Addr) (un uc : Nat) (ls : List Lc) (z : Lc) (gv : Nat) (own : w.ownsRow base 57 4 (.slice uo un uc) un (c4 (ls.map Lc.q))) (hn : un ≤ 300) (hb : base ≤ w.heap.size)
    (hr : w.heap[gv]? = some (.cells #[z.q.a, z.q.b, z.q.c, z.q.d] 57 (0, 0))) :
    ∃ g' c' W, (Builtin.append_ #[25, 25] ty #[.slice uo un uc, .slice (some ⟨gv, 0, none⟩) 1 1]).run Try.prog w = .ok (.slice (some ⟨g', 0, none⟩) (un + 1) c') W ∧
      W.ownsRow base 57 4 (.slice (some ⟨g', 0, none⟩) (un + 1) c') (un + 1) (c4 ((ls ++ [z]).map Lc.q)) ∧ Below base w W := by
  obtain ⟨i1, hj, hy0, hy1, hy2⟩ := info_parts info_list
  have hnews : ∀ j v, ([z.q.a, z.q.b, z.q.c, z.q.d] : List Value)[j]? = some v → w.cell? ((⟨gv, 0, none⟩ : Addr).add j) = some v := by
    intro j v hjv
    rw [add_at, Nat.zero_add]
    simp only [World.cell?, hr]
    simpa using hjv
  obtain ⟨g', c', W, hrun, ow, hcs⟩ := append_row (P := Try.prog) w base 25 ty 57 i1 _ 4 Try.underlying25 hj hy0 hy1 rfl uo un uc (c4 (ls.map Lc.q)) own ⟨gv, 0, none⟩ 1 1 [z.q.a, z.q.b, z.q.c, z.q.d] rfl hnews (q4_one ⟨rfl, rfl, rfl, rfl⟩) (by omega) (by unfold maxLen; omega) (by rw [hy2]; omega) hb
  refine ⟨g', c', W, hrun, ?_, ?_⟩
  · rw [List.map_append, c4_append]
    exact ow
  · rcases hcs with ⟨_, h⟩ | ⟨_, h⟩
    · have hg : base ≤ g' := (owns_blk ow _ rfl).1
      exact h.below hg hb
    · exact h.mono hb

end Go.Proofs.Ytbjlbmofdnkmiaa

/-
  OWN TEXT. Contracts of the document's answer: overlaps.
-/
namespace Go.Proofs.Ytbjlbmofdnkmiaa
open Go Go.RowKit Go.Proofs.Ytbjlbmofdnkmiaa.Kit

set_option maxHeartbeats 1000000 in
set_option maxRecDepth 4000 in
theorem overlaps_any (w : World) (ao : Option Addr) (n cap : Nat) (l : List Bk) (a o : Int) (h : Blks w ao n l) (ho : ∀ i, i < l.length → ordOk (l.getD i .zero).o ∧ 0 ≤ (l.getD i .zero).a ∧ (l.getD i .zero).a ≤ 256) (hoo : ordOk o) (h0 : 0 ≤ a) (h1 : a ≤ 256) :
    Calls Try.prog 38 #[.slice ao n cap, .int .i64 a, .int .i64 o] w fun e w' => RetIff e (∃ i, i < l.length ∧ (l.getD i .zero).a < a + pw o ∧ a < (l.getD i .zero).a + pw (l.getD i .zero).o) ∧ ∃ d, w' = w.drewN d := by
  obtain ⟨hn, hr, hx⟩ := h
  obtain ⟨P, hP⟩ : ∃ P, pw o = P := ⟨_, rfl⟩
  have HP : Hid (pw o = P) := hP
  have p1 := pw_pos o
  have p2 := pw_le hoo
  obtain ⟨o0, o4⟩ := hoo
  rw [hP] at p1 p2 ⊢
  clear hP
  go_enter Try.func38, Try.ntmps38
  go_wp2
  go_loopw [7] (fun i wr => ∃ k : Nat, k ≤ n ∧ i = .int .i64 k ∧ Hid (∀ i, i < k → ¬ ((l.getD i .zero).a < a + P ∧ a < (l.getD i .zero).a + pw (l.getD i .zero).o)) ∧ ∃ d, wr = w.drewN d) (fun i _ => n - (intOf i).toNat)
  case atStart => exact ⟨0, Nat.zero_le _, rfl, (fun i hi => absurd hi (Nat.not_lt_zero i)), 0, rfl⟩
  case round =>
    obtain ⟨k, hk, rfl, hN, hd⟩ := hrel
    have hbw : Below w.heap.size w wr := by obtain ⟨d, rfl⟩ := hd; exact below_drawn d
    by_cases hlt : k < n
    · obtain ⟨b, bo, x, y, u, rfl, c1, c2, c3, hX⟩ := (hx.below hbw).at k (by omega)
      have hy : ordOk y ∧ 0 ≤ x ∧ x ≤ 256 := by have := ho k (by omega); rw [hX.out] at this; exact this
      obtain ⟨hy1, x0, x1⟩ := hy
      obtain ⟨P', hP'⟩ : ∃ P', pw y = P' := ⟨_, rfl⟩
      have HP' : Hid (pw y = P') := hP'
      have p1' := pw_pos y
      have p2' := pw_le hy1
      obtain ⟨y0, y4⟩ := hy1
      rw [hP'] at p1' p2'
      clear hP' c3
      by_cases g1 : x < a + P
      · have g1b : decide (x < a + P) = true := decide_eq_true g1
        by_cases g2 : a < x + P'
        · have g2b : decide (a < x + P') = true := decide_eq_true g2
          have HT : Hid (∃ i, i < l.length ∧ (l.getD i .zero).a < a + P ∧ a < (l.getD i .zero).a + pw (l.getD i .zero).o) := ⟨k, by omega, by rw [hX.out]; exact g1, by rw [hX.out]; dsimp only; rw [HP'.out]; exact g2⟩
          clear hN ho hx hX
          go_wp2
          go_quiet (first | (go_at_call_of 39 o; exact Calls.quiet_of_same (power_v o P o0 (by omega) HP.out _)) | (go_at_call_of 39 y; exact Calls.quiet_of_same (power_v y P' y0 (by omega) HP'.out _)))
          go_wp2
          go_ret
          exact ⟨⟨true, rfl, fun _ => HT.out, fun _ => rfl⟩, drawn_more hd _⟩
        · have g2b : decide (a < x + P') = false := decide_eq_false g2
          have hN' : Hid (∀ i, i < k + 1 → ¬ ((l.getD i .zero).a < a + P ∧ a < (l.getD i .zero).a + pw (l.getD i .zero).o)) := fun i hi => by
            by_cases e : i = k
            · rw [e, hX.out]; dsimp only; rw [HP'.out]; exact fun g => g2 g.2
            · exact hN.out i (by omega)
          clear hN ho hX
          go_wp2
          go_quiet (first | (go_at_call_of 39 o; exact Calls.quiet_of_same (power_v o P o0 (by omega) HP.out _)) | (go_at_call_of 39 y; exact Calls.quiet_of_same (power_v y P' y0 (by omega) HP'.out _)))
          go_wp2
          go_roundw
          case rel => exact ⟨k + 1, by omega, by go_num, hN', drawn_more hd _⟩
          case measure => simp [intOf]; omega
      · have g1b : decide (x < a + P) = false := decide_eq_false g1
        have hN' : Hid (∀ i, i < k + 1 → ¬ ((l.getD i .zero).a < a + P ∧ a < (l.getD i .zero).a + pw (l.getD i .zero).o)) := fun i hi => by
          by_cases e : i = k
          · rw [e, hX.out]; exact fun g => g1 g.1
          · exact hN.out i (by omega)
        clear hN ho hX
        go_wp2
        go_quiet (first | (go_at_call_of 39 o; exact Calls.quiet_of_same (power_v o P o0 (by omega) HP.out _)) | (go_at_call_of 39 y; exact Calls.quiet_of_same (power_v y P' y0 (by omega) HP'.out _)))
        go_wp2
        go_roundw
        case rel => exact ⟨k + 1, by omega, by go_num, hN', drawn_more hd _⟩
        case measure => simp [intOf]; omega
    · have HF : Hid (¬ ∃ i, i < l.length ∧ (l.getD i .zero).a < a + P ∧ a < (l.getD i .zero).a + pw (l.getD i .zero).o) := fun ⟨i, hi, g⟩ => hN.out i (by omega) g
      clear hN ho
      go_wp2
      go_ret
      exact ⟨⟨false, rfl, fun g => (by cases g), fun g => absurd g HF.out⟩, hd⟩

end Go.Proofs.Ytbjlbmofdnkmiaa
