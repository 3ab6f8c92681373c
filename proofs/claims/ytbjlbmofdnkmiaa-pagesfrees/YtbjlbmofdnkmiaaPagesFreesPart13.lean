/-
  OWN TEXTS, bundled: LSet, IDel, HZb, BIdx, ZcJoin, ZcGroup, BCon, BIns.
-/
import Derived.Test.YtbjlbmofdnkmiaaPagesFreesPart12
import Derived.Test.YtbjlbmofdnkmiaaPagesFreesPart2
import Derived.Test.YtbjlbmofdnkmiaaPagesFreesPart11
import Derived.Test.YtbjlbmofdnkmiaaPagesFreesPart9
import Derived.Test.YtbjlbmofdnkmiaaPagesFreesPart7
import Derived.Test.YtbjlbmofdnkmiaaPagesFreesPart5

/-
  OWN TEXT. Contracts of the code: pages.setList (written by sxset.py).
-/
namespace Go.Proofs.Ytbjlbmofdnkmiaa
open Go Go.RowKit Go.Proofs.Ytbjlbmofdnkmiaa.Kit

theorem awayL_old {w : World} {b : Nat} {y : Hx} (h : y.At w) (hb : w.heap.size ≤ b) : AwayL b y := by
  refine ⟨fun h0 a ha => ?_, fun z hz h0 a ha => ?_, fun z hz h0 a ha => ?_, fun h0 a ha => ?_, fun l hl h0 a ha => ?_, fun h0 a ha => ?_⟩
  · obtain ⟨c, off, e, hc, _⟩ := h.zones.cells 0 (by simpa using h0)
    rw [e] at ha
    cases ha
    have := World.block_lt_of_cell? w _ hc
    dsimp only at this ⊢
    omega
  · have := blks_lt (h.zones.at_ z hz).free h0 a ha; omega
  · have := nums_lt (h.zones.at_ z hz).types h0 a ha; omega
  · have := nums_lt h.mins h0 a ha; omega
  · have := nums_lt (h.lists.at_ l hl) h0 a ha; omega
  · have := blks_lt h.live h0 a ha; omega
theorem Kit.Bu2.new {g z b : Nat} {w w' w'' : World} (h : Bu2 g z w w') (hb : But b w' w'') (hn : w.heap.size ≤ b) : Bu2 g z w w'' :=
  ⟨hb.os.trans h.os, hb.tape.trans h.tape, hb.output.trans h.output, Nat.le_trans h.size hb.size, fun k hk h1 h2 => (hb.block k (Nat.lt_of_lt_of_le hk h.size) (by omega)).trans (h.block k hk h1 h2)⟩
theorem wrL_but {lo : Option Addr} {gl g' : Nat} {w w' : World} (h : WrL lo g' w w') (he : ∀ a, lo = some a → a.block = gl) : But gl w w' := by
  rcases h with ⟨g, e, hb, _⟩ | ⟨e, hb, _⟩
  · have := he _ e
    dsimp only at this
    subst this
    exact hb
  · exact But.of_below hb
theorem wrL_where {lo : Option Addr} {gl g' n : Nat} {w w' : World} (h : WrL lo g' w w') (he : ∀ a, lo = some a → a.block = gl) (hn : n ≤ w.heap.size) : g' = gl ∨ n ≤ g' := by
  rcases h with ⟨g, e, _, h | h⟩ | ⟨e, _, h⟩
  · have := he _ e
    exact .inl (h.trans this)
  · exact .inr (by omega)
  · exact .inr (by omega)
theorem bs_listH (a b c d : Value) (w : World) : (Instr.buildSlice 25 1 #[(0, .agg #[a, b, c, d])]).run Try.prog w = .ok (.slice (some ⟨w.heap.size, 0, none⟩) 1 1) (w.alloc (.cells #[a, b, c, d] 57)) := by
  simp [go_sem]
theorem map_eraseIdx {α β : Type} (f : α → β) (l : List α) (i : Nat) : (l.map f).eraseIdx i = (l.eraseIdx i).map f := by
  rw [List.eraseIdx_eq_take_drop_succ, List.eraseIdx_eq_take_drop_succ, List.map_append, List.map_take, List.map_drop]

set_option maxRecDepth 10000 in
set_option maxHeartbeats 4000000 in
theorem pSetList_f (w : World) (B gl hbk : Nat) (y : Hx) (x : Ls) (pv : Value) (po : Option Addr) (pn pc i : Nat) (rhbk : w.heap[hbk]? = some (.cells #[.slice y.zo y.zn y.zc, .slice y.mo y.mn y.mc, .int .i64 y.cpus, .slice y.lo y.ln y.lc, .slice y.vo y.vn y.vc] 28 (0, 0))) (ol : w.ownsRow B 57 4 (.slice y.lo y.ln y.lc) y.ln (c4 (y.ls.map Lc.q))) (el : ∀ a, y.lo = some a → a.block = gl) (hy : y.At w) (al : AwayL gl y) (ah : AwayL hbk y) (hhl : hbk ≠ gl) (hgw : gl < w.heap.size) (hord : RiseL y.ls)
    (hN : Nums w po pn x.pages) (hpl : 0 < x.pages.length → ∀ a, po = some a → a.block ≠ gl ∧ a.block ≠ hbk) (hB : B ≤ w.heap.size) (hln : y.ln ≤ 300) (hA : AtL y.hp.lists x i false) :
    Calls Try.prog 88 #[.pointer (some ⟨hbk, 0, none⟩), .agg #[.int .i64 x.c, .int .i64 x.z, .int .i64 x.t, pv], .slice po pn pc] w fun e w' => e = .returned (.tuple #[]) ∧ ∃ ls lo ln lc, w'.heap[hbk]? = some (.cells #[.slice y.zo y.zn y.zc, .slice y.mo y.mn y.mc, .int .i64 y.cpus, .slice lo ln lc, .slice y.vo y.vn y.vc] 28 (0, 0)) ∧ (y.withL ls lo ln lc).At w' ∧ ls.map (·.l) = setLs y.hp.lists x ∧ Bu2 hbk gl w w' ∧ (∀ a, lo = some a → a.block = gl ∨ w.heap.size ≤ a.block) ∧ ∀ l ∈ ls, l ∈ y.ls ∨ l = ⟨x, po, pn, pc⟩ := by
  have hy0 := hy
  have hr := HRest.of hy
  have hu := Bu2.refl hbk gl w
  have hlk := row_lt rhbk
  have hpo : 0 < x.pages.length → ∀ a, po = some a → a.block < w.heap.size := fun h0 a ha => nums_lt hN h0 a ha
  have hlo : ∀ a, y.lo = some a → a.block = gl ∧ a.block < w.heap.size := fun a ha => ⟨el a ha, (owns_blk ol a ha).2.1⟩
  have hil := hA.1
  have hll : y.hp.lists.length = y.ln := by show (y.ls.map _).length = _; rw [List.length_map]; exact hy.lists.len
  have hN0 := hN.len
  have hrp : RiseP y.hp.lists := riseP_of hord
  refine sx_enter (args := [_, _, _]) 44 Try.func88 rfl rfl rfl ?_
  intro A f
  refine wp_seq ?_
  refine sx_list ?_
  refine l_box f rfl rfl rfl rfl rfl ?_; clear f A; intro b1 W2 eb1 hb3 rb1 A f; dsimp only [Value.cells] at rb1
  have o_hbk_b1 : hbk < b1 := by have := row_lt rhbk; omega
  replace hu := hu.then hb3; replace hy := hy.below hb3; replace hr := hr.below hb3; replace hN := hN.below hb3; replace rhbk := row_next rhbk hb3; replace ol := owns_below ol hb3 (Nat.le_refl _)
  have ab4 : AwayL b1 y := awayL_old hy0 (by omega)
  refine wpList_nil ?_
  refine x_tn ?_
  refine wp_seq ?_
  refine sx_quiet (by kernel_rfl) (by kernel_rfl) ?_
  refine q_do f rfl rfl rfl (y_move rfl rfl) ?_; clear f A; intro A f
  refine q_do f rfl rfl rfl (y_nil rfl rfl) ?_; clear f A; intro A f
  refine q_do f rfl rfl rfl (y_loadN (vs := [_, _, _, _, _]) rfl rfl (ag rfl) rfl (rowls (rowq rhbk) _ _ ⟨rfl, rfl, rfl, rfl, rfl, trivial⟩)) ?_; clear f A; intro A f
  refine q_do f rfl rfl rfl (y_loadN (vs := [_, _, _, _]) rfl rfl (ag rfl) rfl (rowls (rowq rb1) _ _ ⟨rfl, rfl, rfl, rfl, trivial⟩)) ?_; clear f A; intro A f
  refine q_call f rfl rfl rfl (IsCall.mk' (cap := []) rfl rfl rfl) (pl rfl) (fun wx hx => (pListAt_c wx y x pv (hy.below hx) hord hA).mono (fun e w1 h1 => ⟨h1.1, Below.next hx h1.2⟩)) ?_; clear f A; intro A f
  refine q_do f rfl rfl rfl (y_move rfl rfl) ?_; clear f A; intro A f
  refine q_do f rfl rfl rfl (y_ext rfl rfl rfl) ?_; clear f A; intro A f
  refine q_do f rfl rfl rfl (y_ext rfl rfl rfl) ?_; clear f A; intro A f
  refine q_do f rfl rfl rfl (y_assign rfl rfl) ?_; clear f A; intro A f
  skip
  refine q_do f rfl rfl rfl (y_assign rfl rfl) ?_; clear f A; intro A f
  refine wpQuiet_nil ?_; intro W5 hb4; replace hu := hu.then hb4; replace hy := hy.below hb4; replace hr := hr.below hb4; replace hN := hN.below hb4; replace rhbk := row_next rhbk hb4; replace rb1 := row_next rb1 hb4; replace ol := owns_below ol hb4 (Nat.le_refl _)
  refine x_tn ?_
  refine wp_seq ?_
  refine wp_seq ?_
  refine sx_list ?_
  refine l_do f rfl rfl rfl (y_move rfl rfl) ?_; clear f A; intro A f
  refine wpList_nil ?_
  refine x_tn ?_
  refine x_condF f rfl ?_
  refine wp_skip ?_
  refine x_tn ?_
  refine wp_seq ?_
  refine wp_seq ?_
  refine sx_list ?_
  obtain ⟨ls1, hls1⟩ : ∃ l, l = y.ls := ⟨_, rfl⟩
  obtain ⟨n1, hn1⟩ : ∃ n, n = y.ln := ⟨_, rfl⟩
  have ol1 := ol
  rw [← hls1, ← hn1] at ol1
  rw [← hn1] at rhbk
  clear ol hy
  have hm1 : ∀ l ∈ ls1, l ∈ y.ls := fun l hl => by rw [hls1] at hl; exact hl
  have hi1 : i ≤ n1 := by omega
  have hp1 : ls1.map (·.l) = y.hp.lists := by rw [hls1]; rfl
  clear hls1
  refine l_do f rfl rfl rfl (y_move rfl rfl) ?_; clear f A; intro A f
  refine l_do f rfl rfl rfl (y_len rfl rfl (sl rfl)) ?_; clear f A; intro A f
  refine l_if _ f rfl rfl rfl (y_eql rfl rfl rfl) ?_ ?_
  · clear f A; intro c6 A f
    refine wpList_nil ?_
    refine x_tn ?_
    refine x_condT f rfl ?_
    refine wp_ret ?_
    refine x_tr ?_
    refine x_ret0 f rfl ?_
    -- return 0: c6@30
    exact ⟨rfl, ls1, y.lo, n1, y.lc, rhbk, at_withL hr ol1 (by omega) (fun l hl => hr.pages l (hm1 l hl)), by rw [hp1, setLs_at hrp hA]; rw [if_pos (by have := hN.len; omega)]; simp, hu, fun a ha => .inl (el a ha), fun l hl => .inl (hm1 l hl)⟩
  · clear f A; intro c6 A f
    refine wpList_nil ?_
    refine x_tn ?_
    refine x_condF f rfl ?_
    refine wp_skip ?_
    refine x_tn ?_
    refine wp_seq ?_
    refine sx_list ?_
    refine l_do f rfl rfl rfl (y_move rfl rfl) ?_; clear f A; intro A f
    refine l_do f rfl rfl rfl (y_field rfl rfl (fo rfl)) ?_; clear f A; intro A f
    refine l_store f rfl rfl rfl rfl rfl rb1 (sz rfl) rfl (Nat.le_of_ble_eq_true rfl) rfl ?_
    clear rb1; intro W7 hb8 rb1; dsimp only [setL, over, Value.cells] at rb1; replace rhbk := But.row hb8 rhbk (by omega); replace hu := Bu2.new hu hb8 (by omega); replace hr := hr.but ab4 hb8; replace hN := nums_but hN hb8 (fun h0 a ha => by have := hpo h0 a ha; omega); replace ol1 := owns_butN ol1 hb8 (fun a ha => by have := hlo a ha; omega)
    refine wpList_nil ?_
    refine x_tn ?_
    have HSh : ∀ wx : World, (fun (wx : World) => wx.heap[hbk]? = some (.cells #[.slice y.zo y.zn y.zc, .slice y.mo y.mn y.mc, .int .i64 y.cpus, .slice y.lo n1 y.lc, .slice y.vo y.vn y.vc] 28 (0, 0)) ∧ wx.heap[b1]? = some (.cells #[.int .i64 x.c, .int .i64 x.z, .int .i64 x.t, .slice po pn pc] 57 (0, 0))) wx → wx.heap[hbk]? = some (.cells #[.slice y.zo y.zn y.zc, .slice y.mo y.mn y.mc, .int .i64 y.cpus, .slice y.lo n1 y.lc, .slice y.vo y.vn y.vc] 28 (0, 0)) := fun wx h => h.1
    have HS4 : ∀ wx : World, (fun (wx : World) => wx.heap[hbk]? = some (.cells #[.slice y.zo y.zn y.zc, .slice y.mo y.mn y.mc, .int .i64 y.cpus, .slice y.lo n1 y.lc, .slice y.vo y.vn y.vc] 28 (0, 0)) ∧ wx.heap[b1]? = some (.cells #[.int .i64 x.c, .int .i64 x.z, .int .i64 x.t, .slice po pn pc] 57 (0, 0))) wx → wx.heap[b1]? = some (.cells #[.int .i64 x.c, .int .i64 x.z, .int .i64 x.t, .slice po pn pc] 57 (0, 0)) := fun wx h => h.2
    refine sx_heldl (n := 11) (fun (wx : World) => wx.heap[hbk]? = some (.cells #[.slice y.zo y.zn y.zc, .slice y.mo y.mn y.mc, .int .i64 y.cpus, .slice y.lo n1 y.lc, .slice y.vo y.vn y.vc] 28 (0, 0)) ∧ wx.heap[b1]? = some (.cells #[.int .i64 x.c, .int .i64 x.z, .int .i64 x.t, .slice po pn pc] 57 (0, 0))) [7, 8] (by kernel_rfl) (by kernel_rfl) rfl (by kernel_rfl) (blind_body) (⟨row_next rhbk ((Below.refl _ _).drew), row_next rb1 ((Below.refl _ _).drew)⟩) ?_
    dsimp only [List.take]
    generalize hWd : ({ W7 with drawn := W7.drawn + 1 } : World) = W9
    have hdr := drawn_b hWd
    clear hWd
    replace hu := hu.then hdr; replace hr := hr.below hdr; replace hN := hN.below hdr; replace rhbk := row_next rhbk hdr; replace rb1 := row_next rb1 hdr; replace ol1 := owns_below ol1 hdr (Nat.le_refl _)
    refine h_do f rfl rfl rfl rfl (y_move rfl rfl) ?_; clear f A; intro A f
    refine h_do f rfl rfl rfl rfl (y_move rfl rfl) ?_; clear f A; intro A f
    refine h_do f rfl rfl rfl rfl (y_nil rfl rfl) ?_; clear f A; intro A f
    refine h_do f rfl rfl rfl rfl (y_field rfl rfl (fo rfl)) ?_; clear f A; intro A f
    refine h_do f rfl rfl rfl rfl (y_load1 rfl rfl (ag rfl) (rowl HSh rfl)) ?_; clear f A; intro A f
    refine h_do f rfl rfl rfl rfl (y_move rfl rfl) ?_; clear f A; intro A f
    refine h_do f rfl rfl rfl rfl (y_loadN (vs := [_, _, _, _]) rfl rfl (ag rfl) rfl (rowls HS4 _ _ ⟨rfl, rfl, rfl, rfl, trivial⟩)) ?_; clear f A; intro A f
    obtain ⟨gv, hgv⟩ : ∃ g, g = W9.heap.size := ⟨_, rfl⟩
    have lhb := row_lt rhbk
    have lb4 := row_lt rb1
    have lou := hu.size
    refine h_opR (R := fun v W => v = .slice (some ⟨gv, 0, none⟩) 1 1 ∧ Below W9.heap.size W9 W ∧ W.heap[gv]? = some (.cells #[.int .i64 x.c, .int .i64 x.z, .int .i64 x.t, .slice po pn pc] 57 (0, 0))) f rfl rfl rfl rfl ⟨_, _, bs_exec f rfl rfl (bs_listH _ _ _ _ _), by rw [hgv], (Below.refl _ _).alloc (Nat.le_refl _) _, by rw [hgv]; show (Array.push _ _)[_]? = _; rw [Array.getElem?_push, if_pos rfl]⟩ ?_
    clear f A
    rintro _ W10 ⟨rfl, hb11, rgv⟩
    refine ⟨⟨row_next rhbk hb11, row_next rb1 hb11⟩, ?_⟩
    intro A f
    replace hu := hu.then hb11; replace hr := hr.below hb11; replace hN := hN.below hb11; replace rhbk := row_next rhbk hb11; replace rb1 := row_next rb1 hb11; replace ol1 := owns_below ol1 hb11 (Nat.le_refl _)
    refine h_call f rfl rfl rfl rfl (IsCall.mk' (cap := []) rfl rfl rfl) (pl rfl) (lIns_all _ B n1 y.lc i gv y.lo (ls1.map Lc.q) (Lc.q ⟨x, po, pn, pc⟩) hi1 (by omega) (lc_one _) ⟨rfl, rfl, rfl, rfl⟩ (by have := hu.size; omega) ol1 rgv (fun a ha => by have := hlo a ha; omega)) ?_
    clear f A
    rintro _ W12 ⟨g2, c2, rfl, ol2, hwr⟩
    have hug := hu.size
    have hb4g : b1 ≠ gl := by omega
    have hrow : But gl W10 W12 := wrL_but hwr (fun a ha => (hlo a ha).1)
    have hg2 : g2 = gl ∨ w.heap.size ≤ g2 := wrL_where hwr (fun a ha => (hlo a ha).1) (by omega)
    have hg3 : g2 ≠ hbk := by rcases hg2 with e | e <;> omega
    replace rhbk := But.row hrow rhbk hhl
    replace rb1 := But.row hrow rb1 hb4g
    replace hu := hu.trans (Bu2.of_but_z hrow)
    replace hr := hr.but al hrow
    replace hN := nums_but hN hrow (fun h0 a ha => (hpl h0 a ha).1)
    clear ol1
    refine ⟨_, rfl, ⟨rhbk, rb1⟩, ?_⟩
    intro A f
    refine h_do f rfl rfl rfl rfl (y_nil rfl rfl) ?_; clear f A; intro A f
    refine h_do f rfl rfl rfl rfl (y_field rfl rfl (fo rfl)) ?_; clear f A; intro A f
    refine h_nil ?_
    show Oper.wp _ _ _ _ _ _
    refine g_store f rfl rfl rfl rfl rhbk (sz rfl) rfl (Nat.le_of_ble_eq_true rfl) rfl ?_
    clear rhbk
    intro W13 hb14 rhbk
    dsimp only [setL, over, Value.cells] at rhbk
    replace hu := hu.trans (Bu2.of_but_g hb14)
    replace hr := hr.but ah hb14
    replace hN := nums_but hN hb14 (fun h0 a ha => (hpl h0 a ha).2)
    replace ol2 := owns_butN ol2 hb14 (fun a ha => by cases ha; dsimp only; omega)
    refine x_norm0 f rfl ?_
    -- end 1: ¬c6@30
    have hq : insQ (ls1.map Lc.q) i (Lc.q ⟨x, po, pn, pc⟩) = (ls1.take i ++ ⟨x, po, pn, pc⟩ :: ls1.drop i).map Lc.q := by unfold insQ; rw [List.map_append, List.map_cons, List.map_take, List.map_drop]
    rw [hq] at ol2
    have hmm : ∀ l ∈ ls1.take i ++ ⟨x, po, pn, pc⟩ :: ls1.drop i, l ∈ y.ls ∨ l = ⟨x, po, pn, pc⟩ := fun l hl => by
      rcases List.mem_append.1 hl with h | h
      · exact .inl (hm1 l (List.mem_of_mem_take h))
      · rcases List.mem_cons.1 h with h | h
        · exact .inr h
        · exact .inl (hm1 l (List.mem_of_mem_drop h))
    refine ⟨rfl, _, _, _, _, rhbk, at_withL hr ol2 (by omega) (fun l hl => ?_), ?_, hu, fun a ha => by cases ha; exact hg2, hmm⟩
    · rcases hmm l hl with h | rfl
      · exact hr.pages l h
      · exact hN
    · rw [List.map_append, List.map_cons, List.map_take, List.map_drop, hp1, setLs_at hrp hA, if_neg (by have := hN.len; omega)]
      simp

set_option maxRecDepth 10000 in
set_option maxHeartbeats 4000000 in
theorem pSetList_t (w : World) (B gl hbk : Nat) (y : Hx) (x : Ls) (pv : Value) (po : Option Addr) (pn pc i : Nat) (rhbk : w.heap[hbk]? = some (.cells #[.slice y.zo y.zn y.zc, .slice y.mo y.mn y.mc, .int .i64 y.cpus, .slice y.lo y.ln y.lc, .slice y.vo y.vn y.vc] 28 (0, 0))) (ol : w.ownsRow B 57 4 (.slice y.lo y.ln y.lc) y.ln (c4 (y.ls.map Lc.q))) (el : ∀ a, y.lo = some a → a.block = gl) (hy : y.At w) (al : AwayL gl y) (ah : AwayL hbk y) (hhl : hbk ≠ gl) (hgw : gl < w.heap.size) (hord : RiseL y.ls)
    (hN : Nums w po pn x.pages) (hpl : 0 < x.pages.length → ∀ a, po = some a → a.block ≠ gl ∧ a.block ≠ hbk) (hB : B ≤ w.heap.size) (hln : y.ln ≤ 300) (hib : i < y.ln) (hA : AtL y.hp.lists x i true) :
    Calls Try.prog 88 #[.pointer (some ⟨hbk, 0, none⟩), .agg #[.int .i64 x.c, .int .i64 x.z, .int .i64 x.t, pv], .slice po pn pc] w fun e w' => e = .returned (.tuple #[]) ∧ ∃ ls lo ln lc, w'.heap[hbk]? = some (.cells #[.slice y.zo y.zn y.zc, .slice y.mo y.mn y.mc, .int .i64 y.cpus, .slice lo ln lc, .slice y.vo y.vn y.vc] 28 (0, 0)) ∧ (y.withL ls lo ln lc).At w' ∧ ls.map (·.l) = setLs y.hp.lists x ∧ Bu2 hbk gl w w' ∧ (∀ a, lo = some a → a.block = gl ∨ w.heap.size ≤ a.block) ∧ ∀ l ∈ ls, l ∈ y.ls ∨ l = ⟨x, po, pn, pc⟩ := by
  have hy0 := hy
  have hr := HRest.of hy
  have hu := Bu2.refl hbk gl w
  have hlk := row_lt rhbk
  have hpo : 0 < x.pages.length → ∀ a, po = some a → a.block < w.heap.size := fun h0 a ha => nums_lt hN h0 a ha
  have hlo : ∀ a, y.lo = some a → a.block = gl ∧ a.block < w.heap.size := fun a ha => ⟨el a ha, (owns_blk ol a ha).2.1⟩
  have hil := hA.1
  have hll : y.hp.lists.length = y.ln := by show (y.ls.map _).length = _; rw [List.length_map]; exact hy.lists.len
  have hN0 := hN.len
  have hrp : RiseP y.hp.lists := riseP_of hord
  refine sx_enter (args := [_, _, _]) 44 Try.func88 rfl rfl rfl ?_
  intro A f
  refine wp_seq ?_
  refine sx_list ?_
  refine l_box f rfl rfl rfl rfl rfl ?_; clear f A; intro b1 W2 eb1 hb3 rb1 A f; dsimp only [Value.cells] at rb1
  have o_hbk_b1 : hbk < b1 := by have := row_lt rhbk; omega
  replace hu := hu.then hb3; replace hy := hy.below hb3; replace hr := hr.below hb3; replace hN := hN.below hb3; replace rhbk := row_next rhbk hb3; replace ol := owns_below ol hb3 (Nat.le_refl _)
  have ab4 : AwayL b1 y := awayL_old hy0 (by omega)
  refine wpList_nil ?_
  refine x_tn ?_
  refine wp_seq ?_
  refine sx_quiet (by kernel_rfl) (by kernel_rfl) ?_
  refine q_do f rfl rfl rfl (y_move rfl rfl) ?_; clear f A; intro A f
  refine q_do f rfl rfl rfl (y_nil rfl rfl) ?_; clear f A; intro A f
  refine q_do f rfl rfl rfl (y_loadN (vs := [_, _, _, _, _]) rfl rfl (ag rfl) rfl (rowls (rowq rhbk) _ _ ⟨rfl, rfl, rfl, rfl, rfl, trivial⟩)) ?_; clear f A; intro A f
  refine q_do f rfl rfl rfl (y_loadN (vs := [_, _, _, _]) rfl rfl (ag rfl) rfl (rowls (rowq rb1) _ _ ⟨rfl, rfl, rfl, rfl, trivial⟩)) ?_; clear f A; intro A f
  refine q_call f rfl rfl rfl (IsCall.mk' (cap := []) rfl rfl rfl) (pl rfl) (fun wx hx => (pListAt_c wx y x pv (hy.below hx) hord hA).mono (fun e w1 h1 => ⟨h1.1, Below.next hx h1.2⟩)) ?_; clear f A; intro A f
  refine q_do f rfl rfl rfl (y_move rfl rfl) ?_; clear f A; intro A f
  refine q_do f rfl rfl rfl (y_ext rfl rfl rfl) ?_; clear f A; intro A f
  refine q_do f rfl rfl rfl (y_ext rfl rfl rfl) ?_; clear f A; intro A f
  refine q_do f rfl rfl rfl (y_assign rfl rfl) ?_; clear f A; intro A f
  skip
  refine q_do f rfl rfl rfl (y_assign rfl rfl) ?_; clear f A; intro A f
  refine wpQuiet_nil ?_; intro W5 hb4; replace hu := hu.then hb4; replace hy := hy.below hb4; replace hr := hr.below hb4; replace hN := hN.below hb4; replace rhbk := row_next rhbk hb4; replace rb1 := row_next rb1 hb4; replace ol := owns_below ol hb4 (Nat.le_refl _)
  refine x_tn ?_
  refine wp_seq ?_
  refine wp_seq ?_
  refine sx_list ?_
  refine l_do f rfl rfl rfl (y_move rfl rfl) ?_; clear f A; intro A f
  refine wpList_nil ?_
  refine x_tn ?_
  refine x_condT f rfl ?_
  refine sx_list ?_
  refine l_do f rfl rfl rfl (y_move rfl rfl) ?_; clear f A; intro A f
  refine l_do f rfl rfl rfl (y_move rfl rfl) ?_; clear f A; intro A f
  refine l_do f rfl rfl rfl (y_nil rfl rfl) ?_; clear f A; intro A f
  refine l_do f rfl rfl rfl (y_field rfl rfl (fo rfl)) ?_; clear f A; intro A f
  refine l_do f rfl rfl rfl (y_load1 rfl rfl (ag rfl) (rowl (rowq rhbk) rfl)) ?_; clear f A; intro A f
  refine l_do f rfl rfl rfl (y_move rfl rfl) ?_; clear f A; intro A f
  refine l_do f rfl rfl rfl (y_move rfl rfl) ?_; clear f A; intro A f
  refine l_do f rfl rfl rfl (y_add rfl rfl rfl rfl (by omega)) ?_; clear f A; intro A f
  refine l_call f rfl rfl rfl (IsCall.mk' (cap := []) rfl rfl rfl) (pl rfl) (lDel_all _ B y.ln y.lc i y.lo (y.ls.map Lc.q) hib hln (lc_one _) ol) ?_
  clear f A
  rintro _ W6 ⟨g, hg, rfl, ol1, hb7⟩
  refine ⟨_, rfl, ?_⟩
  intro A f
  have hgg : g = gl := el _ hg
  rw [hgg] at hb7
  replace rhbk := But.row hb7 rhbk (by omega)
  replace rb1 := But.row hb7 rb1 (by omega)
  rw [map_eraseIdx] at ol1
  replace hu := hu.trans (Bu2.of_but_z hb7)
  replace hr := hr.but al hb7
  replace hN := nums_but hN hb7 (fun h0 a ha => (hpl h0 a ha).1)
  refine l_do f rfl rfl rfl (y_nil rfl rfl) ?_; clear f A; intro A f
  refine l_do f rfl rfl rfl (y_field rfl rfl (fo rfl)) ?_; clear f A; intro A f
  refine l_store f rfl rfl rfl rfl rfl rhbk (sz rfl) rfl (Nat.le_of_ble_eq_true rfl) rfl ?_
  clear rhbk; intro W8 hb9 rhbk; dsimp only [setL, over, Value.cells] at rhbk; replace rb1 := But.row hb9 rb1 (by omega); replace hu := hu.trans (Bu2.of_but_g hb9); replace hr := hr.but ah hb9; replace hN := nums_but hN hb9 (fun h0 a ha => (hpl h0 a ha).2); replace ol1 := owns_butN ol1 hb9 (fun a ha => by have := el a ha; omega)
  refine wpList_nil ?_
  refine x_tn ?_
  refine wp_seq ?_
  refine wp_seq ?_
  refine sx_list ?_
  obtain ⟨ls1, hls1⟩ : ∃ l, l = y.ls.eraseIdx i := ⟨_, rfl⟩
  obtain ⟨n1, hn1⟩ : ∃ n, n = y.ln - 1 := ⟨_, rfl⟩
  rw [← hls1, ← hn1] at ol1
  rw [← hn1] at rhbk
  have hm1 : ∀ l ∈ ls1, l ∈ y.ls := fun l hl => by rw [hls1] at hl; exact List.mem_of_mem_eraseIdx hl
  have hi1 : i ≤ n1 := by omega
  have hp1 : ls1.map (·.l) = y.hp.lists.eraseIdx i := by rw [hls1]; show _ = (y.ls.map _).eraseIdx i; rw [map_eraseIdx]
  clear hls1
  refine l_do f rfl rfl rfl (y_move rfl rfl) ?_; clear f A; intro A f
  refine l_do f rfl rfl rfl (y_len rfl rfl (sl rfl)) ?_; clear f A; intro A f
  refine l_if _ f rfl rfl rfl (y_eql rfl rfl rfl) ?_ ?_
  · clear f A; intro c10 A f
    refine wpList_nil ?_
    refine x_tn ?_
    refine x_condT f rfl ?_
    refine wp_ret ?_
    refine x_tr ?_
    refine x_ret0 f rfl ?_
    -- return 0: c10@30
    exact ⟨rfl, ls1, y.lo, n1, y.lc, rhbk, at_withL hr ol1 (by omega) (fun l hl => hr.pages l (hm1 l hl)), by rw [hp1, setLs_at hrp hA]; rw [if_pos (by have := hN.len; omega)]; simp, hu, fun a ha => .inl (el a ha), fun l hl => .inl (hm1 l hl)⟩
  · clear f A; intro c10 A f
    refine wpList_nil ?_
    refine x_tn ?_
    refine x_condF f rfl ?_
    refine wp_skip ?_
    refine x_tn ?_
    refine wp_seq ?_
    refine sx_list ?_
    refine l_do f rfl rfl rfl (y_move rfl rfl) ?_; clear f A; intro A f
    refine l_do f rfl rfl rfl (y_field rfl rfl (fo rfl)) ?_; clear f A; intro A f
    refine l_store f rfl rfl rfl rfl rfl rb1 (sz rfl) rfl (Nat.le_of_ble_eq_true rfl) rfl ?_
    clear rb1; intro W11 hb12 rb1; dsimp only [setL, over, Value.cells] at rb1; replace rhbk := But.row hb12 rhbk (by omega); replace hu := Bu2.new hu hb12 (by omega); replace hr := hr.but ab4 hb12; replace hN := nums_but hN hb12 (fun h0 a ha => by have := hpo h0 a ha; omega); replace ol1 := owns_butN ol1 hb12 (fun a ha => by have := hlo a ha; omega)
    refine wpList_nil ?_
    refine x_tn ?_
    have HSh : ∀ wx : World, (fun (wx : World) => wx.heap[hbk]? = some (.cells #[.slice y.zo y.zn y.zc, .slice y.mo y.mn y.mc, .int .i64 y.cpus, .slice y.lo n1 y.lc, .slice y.vo y.vn y.vc] 28 (0, 0)) ∧ wx.heap[b1]? = some (.cells #[.int .i64 x.c, .int .i64 x.z, .int .i64 x.t, .slice po pn pc] 57 (0, 0))) wx → wx.heap[hbk]? = some (.cells #[.slice y.zo y.zn y.zc, .slice y.mo y.mn y.mc, .int .i64 y.cpus, .slice y.lo n1 y.lc, .slice y.vo y.vn y.vc] 28 (0, 0)) := fun wx h => h.1
    have HS4 : ∀ wx : World, (fun (wx : World) => wx.heap[hbk]? = some (.cells #[.slice y.zo y.zn y.zc, .slice y.mo y.mn y.mc, .int .i64 y.cpus, .slice y.lo n1 y.lc, .slice y.vo y.vn y.vc] 28 (0, 0)) ∧ wx.heap[b1]? = some (.cells #[.int .i64 x.c, .int .i64 x.z, .int .i64 x.t, .slice po pn pc] 57 (0, 0))) wx → wx.heap[b1]? = some (.cells #[.int .i64 x.c, .int .i64 x.z, .int .i64 x.t, .slice po pn pc] 57 (0, 0)) := fun wx h => h.2
    refine sx_heldl (n := 11) (fun (wx : World) => wx.heap[hbk]? = some (.cells #[.slice y.zo y.zn y.zc, .slice y.mo y.mn y.mc, .int .i64 y.cpus, .slice y.lo n1 y.lc, .slice y.vo y.vn y.vc] 28 (0, 0)) ∧ wx.heap[b1]? = some (.cells #[.int .i64 x.c, .int .i64 x.z, .int .i64 x.t, .slice po pn pc] 57 (0, 0))) [7, 8] (by kernel_rfl) (by kernel_rfl) rfl (by kernel_rfl) (blind_body) (⟨row_next rhbk ((Below.refl _ _).drew), row_next rb1 ((Below.refl _ _).drew)⟩) ?_
    dsimp only [List.take]
    generalize hWd : ({ W11 with drawn := W11.drawn + 1 } : World) = W13
    have hdr := drawn_b hWd
    clear hWd
    replace hu := hu.then hdr; replace hr := hr.below hdr; replace hN := hN.below hdr; replace rhbk := row_next rhbk hdr; replace rb1 := row_next rb1 hdr; replace ol1 := owns_below ol1 hdr (Nat.le_refl _)
    refine h_do f rfl rfl rfl rfl (y_move rfl rfl) ?_; clear f A; intro A f
    refine h_do f rfl rfl rfl rfl (y_move rfl rfl) ?_; clear f A; intro A f
    refine h_do f rfl rfl rfl rfl (y_nil rfl rfl) ?_; clear f A; intro A f
    refine h_do f rfl rfl rfl rfl (y_field rfl rfl (fo rfl)) ?_; clear f A; intro A f
    refine h_do f rfl rfl rfl rfl (y_load1 rfl rfl (ag rfl) (rowl HSh rfl)) ?_; clear f A; intro A f
    refine h_do f rfl rfl rfl rfl (y_move rfl rfl) ?_; clear f A; intro A f
    refine h_do f rfl rfl rfl rfl (y_loadN (vs := [_, _, _, _]) rfl rfl (ag rfl) rfl (rowls HS4 _ _ ⟨rfl, rfl, rfl, rfl, trivial⟩)) ?_; clear f A; intro A f
    obtain ⟨gv, hgv⟩ : ∃ g, g = W13.heap.size := ⟨_, rfl⟩
    have lhb := row_lt rhbk
    have lb4 := row_lt rb1
    have lou := hu.size
    refine h_opR (R := fun v W => v = .slice (some ⟨gv, 0, none⟩) 1 1 ∧ Below W13.heap.size W13 W ∧ W.heap[gv]? = some (.cells #[.int .i64 x.c, .int .i64 x.z, .int .i64 x.t, .slice po pn pc] 57 (0, 0))) f rfl rfl rfl rfl ⟨_, _, bs_exec f rfl rfl (bs_listH _ _ _ _ _), by rw [hgv], (Below.refl _ _).alloc (Nat.le_refl _) _, by rw [hgv]; show (Array.push _ _)[_]? = _; rw [Array.getElem?_push, if_pos rfl]⟩ ?_
    clear f A
    rintro _ W14 ⟨rfl, hb15, rgv⟩
    refine ⟨⟨row_next rhbk hb15, row_next rb1 hb15⟩, ?_⟩
    intro A f
    replace hu := hu.then hb15; replace hr := hr.below hb15; replace hN := hN.below hb15; replace rhbk := row_next rhbk hb15; replace rb1 := row_next rb1 hb15; replace ol1 := owns_below ol1 hb15 (Nat.le_refl _)
    refine h_call f rfl rfl rfl rfl (IsCall.mk' (cap := []) rfl rfl rfl) (pl rfl) (lIns_all _ B n1 y.lc i gv y.lo (ls1.map Lc.q) (Lc.q ⟨x, po, pn, pc⟩) hi1 (by omega) (lc_one _) ⟨rfl, rfl, rfl, rfl⟩ (by have := hu.size; omega) ol1 rgv (fun a ha => by have := hlo a ha; omega)) ?_
    clear f A
    rintro _ W16 ⟨g2, c2, rfl, ol2, hwr⟩
    have hug := hu.size
    have hb4g : b1 ≠ gl := by omega
    have hrow : But gl W14 W16 := wrL_but hwr (fun a ha => (hlo a ha).1)
    have hg2 : g2 = gl ∨ w.heap.size ≤ g2 := wrL_where hwr (fun a ha => (hlo a ha).1) (by omega)
    have hg3 : g2 ≠ hbk := by rcases hg2 with e | e <;> omega
    replace rhbk := But.row hrow rhbk hhl
    replace rb1 := But.row hrow rb1 hb4g
    replace hu := hu.trans (Bu2.of_but_z hrow)
    replace hr := hr.but al hrow
    replace hN := nums_but hN hrow (fun h0 a ha => (hpl h0 a ha).1)
    clear ol1
    refine ⟨_, rfl, ⟨rhbk, rb1⟩, ?_⟩
    intro A f
    refine h_do f rfl rfl rfl rfl (y_nil rfl rfl) ?_; clear f A; intro A f
    refine h_do f rfl rfl rfl rfl (y_field rfl rfl (fo rfl)) ?_; clear f A; intro A f
    refine h_nil ?_
    show Oper.wp _ _ _ _ _ _
    refine g_store f rfl rfl rfl rfl rhbk (sz rfl) rfl (Nat.le_of_ble_eq_true rfl) rfl ?_
    clear rhbk
    intro W17 hb18 rhbk
    dsimp only [setL, over, Value.cells] at rhbk
    replace hu := hu.trans (Bu2.of_but_g hb18)
    replace hr := hr.but ah hb18
    replace hN := nums_but hN hb18 (fun h0 a ha => (hpl h0 a ha).2)
    replace ol2 := owns_butN ol2 hb18 (fun a ha => by cases ha; dsimp only; omega)
    refine x_norm0 f rfl ?_
    -- end 1: ¬c10@30
    have hq : insQ (ls1.map Lc.q) i (Lc.q ⟨x, po, pn, pc⟩) = (ls1.take i ++ ⟨x, po, pn, pc⟩ :: ls1.drop i).map Lc.q := by unfold insQ; rw [List.map_append, List.map_cons, List.map_take, List.map_drop]
    rw [hq] at ol2
    have hmm : ∀ l ∈ ls1.take i ++ ⟨x, po, pn, pc⟩ :: ls1.drop i, l ∈ y.ls ∨ l = ⟨x, po, pn, pc⟩ := fun l hl => by
      rcases List.mem_append.1 hl with h | h
      · exact .inl (hm1 l (List.mem_of_mem_take h))
      · rcases List.mem_cons.1 h with h | h
        · exact .inr h
        · exact .inl (hm1 l (List.mem_of_mem_drop h))
    refine ⟨rfl, _, _, _, _, rhbk, at_withL hr ol2 (by omega) (fun l hl => ?_), ?_, hu, fun a ha => by cases ha; exact hg2, hmm⟩
    · rcases hmm l hl with h | rfl
      · exact hr.pages l h
      · exact hN
    · rw [List.map_append, List.map_cons, List.map_take, List.map_drop, hp1, setLs_at hrp hA, if_neg (by have := hN.len; omega)]
      simp

end Go.Proofs.Ytbjlbmofdnkmiaa

/-
  OWN TEXT. Contract of slices.Delete over numbers: the first four of nine.
-/
namespace Go.Proofs.Ytbjlbmofdnkmiaa
open Go Go.RowKit Go.Proofs.Ytbjlbmofdnkmiaa.Kit

theorem zero_int : ∀ w, (zeroValue 3).run Try.prog w = .ok (.int .i64 0) w := fun w => by
  have h := info_int
  cases hq : Try.prog.info? 3 with
  | none => simp [hq] at h
  | some i =>
    simp [hq] at h
    simp [zeroValue, typeInfo, hq, h.1]
theorem zero_oneI : ∀ v ∈ (Value.int .i64 0).cells, v.oneCell' = true := by
  intro v hv
  have h : v ∈ (#[.int .i64 0] : Array Value) := hv
  simp at h
  subst h
  rfl

set_option maxHeartbeats 2000000 in
theorem iDel4_any (w : World) (base g cap : Nat) (xs : List Int) (own : w.ownsRow base 3 1 (.slice (some ⟨g, 0, none⟩) 9 cap) 9 (vals xs)) :
    Calls Try.prog 87 #[.slice (some ⟨g, 0, none⟩) 9 cap, .int .i64 0, .int .i64 4] w fun e w' => e = .returned (.slice (some ⟨g, 0, none⟩) 5 cap) ∧
      w'.ownsRow base 3 1 (.slice (some ⟨g, 0, none⟩) 5 cap) 5 (vals (xs.drop 4)) ∧ But g w w' := by
  obtain ⟨i1, hj, hy0, hy1, hy2⟩ := info_parts info_int
  have hll : xs.length = 9 := by have := own.1; rw [length_vals] at this; omega
  obtain ⟨hbg, hnc, cur, R, hcur⟩ := Row.of own
  have hm := R.m
  unfold maxLen at hm
  have own1 : w.drew.ownsRow base 3 1 (.slice (some ⟨g, 0, none⟩) 0 cap) 0 [] :=
    (R.below (Below.refl _ _).drew).owns hbg (by omega) (by simp)
  obtain ⟨news, hnews⟩ : ∃ news, news = vals (xs.drop 4) := ⟨_, rfl⟩
  have hnl : news.length = 5 * 1 := by rw [hnews, length_vals, List.length_drop, hll]
  have hn1 : ∀ u ∈ news, u.oneCell' = true := by rw [hnews]; exact vals_oneCell _
  have hcell : ∀ j u, news[j]? = some u → w.drew.cell? ((⟨g, 4, none⟩ : Addr).add j) = some u := by
    intro j u hu
    rw [add_at, (R.below (Below.refl _ _).drew).cell]
    rw [hnews] at hu
    have e : vals (xs.drop 4) = (vals xs).drop 4 := by unfold vals; rw [List.map_drop]
    rw [e, List.getElem?_drop] at hu
    rw [← hcur, List.getElem?_take] at hu
    split at hu
    · exact hu
    · cases hu
  have HE : Hid (news = vals (xs.drop 4)) := hnews
  have Hcell : Hid _ := hcell
  have Hnl : Hid _ := hnl
  clear hnews hcur own hcell hnl
  have h5 : ¬ (cap = 4) := by omega
  have h6 : ¬ (cap = 0) := by omega
  have h7 : ¬ (cap = 5) := by omega
  have h8 : (4 : Int) ≤ (cap : Int) := by omega
  have h9 : (9 : Int) ≤ (cap : Int) := by omega
  have h10 : 4 ≤ cap := by omega
  have h11 : 9 ≤ cap := by omega
  go_enter Try.func87, Try.ntmps87
  go_wp2
  go_region_law (refine step_append_fits rfl (.tmp 22) (.tmp 25) 24 rfl 3 i1 1 Try.underlying24 hj hy1 base g 0 cap [] (by simp [Act.eval, Act.put]) own1 (some ⟨g, 4, none⟩) 5 (cap - 4) news (by simp [Act.eval, Act.put]) Hnl.out ⟨_, rfl, Hcell.out⟩ hn1 5 (by omega) (by omega) ?_; intro w1 ho1 hb1)
  all_goals
    obtain ⟨_, _, cur1, R1, hcur1⟩ := Row.of ho1
    have hl1 := R1.len
    clear own1 Hcell Hnl hn1 ho1 R
    go_wp2_with (refine wpList_clear_k rfl (.tmp 31) 24 rfl 3 _ 1 Try.underlying24 zero_int rfl zero_oneI _ _ _ rfl g 5 cur1 R1.h (fun _ => rfl) (by omega) ?_; intro w2 cur2 hg2 hb2)
    go_ret
    obtain ⟨g1, g2, g3⟩ := hg2.out
    have R2 : Row w2 3 1 g cap cur2 := ⟨g1, by rw [g2]; exact hl1, R1.m⟩
    exact ⟨rfl, R2.owns hbg (by omega) (by rw [show 5 * 1 = 5 from rfl, g3, hcur1, List.nil_append, HE.out]), ((But.of_below (Below.refl _ _).drew).trans hb1).trans hb2⟩

end Go.Proofs.Ytbjlbmofdnkmiaa

/-
  OWN TEXT. Pages go back to their zones one by one: plain.
-/
namespace Go.Proofs.Ytbjlbmofdnkmiaa
open Go Go.RowKit Go.Proofs.Ytbjlbmofdnkmiaa.Kit

/-- The same heap with other zones. -/
def Kit.Hx.withZ (y : Hx) (zs : List Zc) : Hx := { y with zs := zs }
theorem withZ_self (y : Hx) : y.withZ y.zs = y := rfl
theorem withZ_set (y : Hx) (zs : List Zc) (i : Nat) (z : Zc) : (y.withZ zs).setZ i z = y.withZ (zs.set i z) := rfl
theorem Kit.But.gr {g : Nat} {w w' w'' : World} (h : But g w w') (hb : Below w'.heap.size w' w'') : But g w w'' := h.trans (But.of_below hb)
def backs (H : Hp) : List Int → Hp
  | [] => H
  | p :: r => backs (backH H p 0) r
def CanBacks : Hp → List Int → Prop
  | _, [] => True
  | H, p :: r => CanBack H p 0 ∧ CanBacks (backH H p 0) r
theorem backs_append (H : Hp) : ∀ (l m : List Int), backs H (l ++ m) = backs (backs H l) m
  | [], _ => rfl
  | p :: r, m => by rw [List.cons_append]; exact backs_append (backH H p 0) r m
theorem canBacks_append {H : Hp} : ∀ {l m : List Int}, CanBacks H (l ++ m) ↔ CanBacks H l ∧ CanBacks (backs H l) m
  | [], m => by simp [CanBacks, backs]
  | p :: r, m => by
    have ih := canBacks_append (H := backH H p 0) (l := r) (m := m)
    simp only [List.cons_append, CanBacks, backs, ih, and_assoc]
theorem backs_take {H : Hp} {l : List Int} {k : Nat} (hk : k < l.length) {p : Int} (hp : l.getD k 0 = p) : backs H (l.take (k + 1)) = backH (backs H (l.take k)) p 0 := by
  rw [List.getD_eq_getElem?_getD, List.getElem?_eq_getElem hk] at hp
  rw [List.take_succ_eq_append_getElem hk, backs_append]
  simp only [Option.getD_some] at hp
  rw [hp]; rfl
theorem canBacks_at {H : Hp} {l : List Int} (h : CanBacks H l) {k : Nat} (hk : k < l.length) {p : Int} (hp : l.getD k 0 = p) : CanBack (backs H (l.take k)) p 0 := by
  rw [List.getD_eq_getElem?_getD, List.getElem?_eq_getElem hk] at hp
  simp only [Option.getD_some] at hp
  have e : l = l.take k ++ (p :: l.drop (k + 1)) := by rw [← hp, List.getElem_cons_drop, List.take_append_drop]
  rw [e, canBacks_append] at h
  exact h.2.1
theorem backs_lists (H : Hp) : ∀ (l : List Int), (backs H l).lists = H.lists ∧ (backs H l).mins = H.mins ∧ (backs H l).cpus = H.cpus ∧ (backs H l).live = H.live
  | [] => ⟨rfl, rfl, rfl, rfl⟩
  | p :: r => backs_lists (backH H p 0) r
theorem withZ_hp (y : Hx) (zs : List Zc) : (y.withZ zs).hp = { y.hp with zones := zs.map (·.z) } := rfl

theorem backH_ft (H : Hp) (p o : Int) (i : Nat) : ((backH H p o).zones.getD i ⟨0, 0, [], []⟩).f = (H.zones.getD i ⟨0, 0, [], []⟩).f ∧ ((backH H p o).zones.getD i ⟨0, 0, [], []⟩).t = (H.zones.getD i ⟨0, 0, [], []⟩).t := by
  unfold backH
  dsimp only
  simp only [List.getD_eq_getElem?_getD, List.getElem?_set]
  by_cases e : zIdx H p = i
  · subst e
    by_cases h : zIdx H p < H.zones.length
    · simp [h, backZ]
    · simp [h]
  · simp [e]
theorem backs_ft (i : Nat) : ∀ (l : List Int) (H : Hp), ((backs H l).zones.getD i ⟨0, 0, [], []⟩).f = (H.zones.getD i ⟨0, 0, [], []⟩).f ∧ ((backs H l).zones.getD i ⟨0, 0, [], []⟩).t = (H.zones.getD i ⟨0, 0, [], []⟩).t
  | [], H => ⟨rfl, rfl⟩
  | p :: r, H => by
    have h1 := backs_ft i r (backH H p 0)
    have h2 := backH_ft H p 0 i
    exact ⟨h1.1.trans h2.1, h1.2.trans h2.2⟩
/-- The second zone begins where the first one ends. -/
def Adj (y : Hx) : Prop := (y.zs.getD 1 .zero).z.f = (y.zs.getD 0 .zero).z.t
theorem adj_backs {y : Hx} {zs : List Zc} {l : List Int} (h : Adj y) (he : (y.withZ zs).hp = backs y.hp l) : Adj (y.withZ zs) := by
  unfold Adj at h ⊢
  rw [← hp_zone, ← hp_zone] at h ⊢
  rw [he, (backs_ft 1 l y.hp).1, (backs_ft 0 l y.hp).2]
  exact h

end Go.Proofs.Ytbjlbmofdnkmiaa

/-
  OWN TEXT. Contracts of slices.IndexFunc and slices.ContainsFunc over blocks, whatever the closure.
-/
namespace Go.Proofs.Ytbjlbmofdnkmiaa
open Go Go.RowKit Go.Proofs.Ytbjlbmofdnkmiaa.Kit

/-- What the closure does at the blocks of a list, whatever new memory there is. -/
def HoldsB (F : Nat) (caps : Array Value) (l : List Bk) (g : Bk → Bool) (w : World) : Prop :=
  ∀ (i : Nat), i < l.length → ∀ W : World, Below w.heap.size w W → Calls Try.prog F (#[Value.agg #[.int .i64 (l.getD i .zero).a, .int .i64 (l.getD i .zero).o, .int .i64 (l.getD i .zero).t]] ++ caps) W fun e W' => e = .returned (.bool (g (l.getD i .zero))) ∧ Below W.heap.size W W'

/-- The first place at which it holds is returned, or -1. -/
def FoundAt (e : Ending) (l : List Bk) (g : Bk → Bool) : Prop :=
  (∃ k : Nat, k < l.length ∧ e = .returned (.int .i64 (k : Int)) ∧ g (l.getD k .zero) = true ∧ ∀ j, j < k → g (l.getD j .zero) = false) ∨ (e = .returned (.int .i64 (-1)) ∧ ∀ j, j < l.length → g (l.getD j .zero) = false)

set_option maxHeartbeats 1000000 in
theorem bIndex_any (w : World) (F : Nat) (caps : Array Value) (ao : Option Addr) (n cap : Nat) (l : List Bk) (g : Bk → Bool) (h : Blks w ao n l)
    (hcall : ∀ args W, (callFunc F args).run Try.prog W = .ok (.enter F args) W) (hc : HoldsB F caps l g w) :
    Calls Try.prog 46 #[.slice ao n cap, .func (.func F) #[] caps] w fun e w' => FoundAt e l g ∧ Below w.heap.size w w' := by
  have hlen := h.len
  have hrch := h.reach
  go_enter Try.func46, Try.ntmps46
  go_wp2
  go_loopw [8] (fun i wr => ∃ k : Nat, k ≤ n ∧ i = .int .i64 k ∧ Hid (∀ j, j < k → g (l.getD j .zero) = false) ∧ Below w.heap.size w wr) (fun i _ => n - (intOf i).toNat)
  case atStart => exact ⟨0, Nat.zero_le _, rfl, (fun j hj => absurd hj (Nat.not_lt_zero j)), Below.refl _ _⟩
  case round =>
    obtain ⟨k, hk, rfl, hN, hb⟩ := hrel
    by_cases hlt : k < n
    · obtain ⟨b, o, rfl, c0, c1, c2⟩ := h.at_ k (by omega)
      have hc1 := hc k (by omega) wr hb
      obtain ⟨r, hr⟩ : ∃ r, l.getD k .zero = r := ⟨_, rfl⟩
      have HR : Hid (l.getD k .zero = r) := hr
      rw [hr] at c0 c1 c2 hc1
      clear hr
      obtain ⟨x, y, u⟩ := r
      dsimp only at c0 c1 c2 hc1
      have d0 := keep c0 hb
      have d1 := keep c1 hb
      have d2 := keep c2 hb
      clear c0 c1 c2
      go_wp2_with fail
      refine hc1.mono ?_
      rintro e w1 ⟨rfl, hb1⟩
      have hB := hb.trans (hb1.mono hb.size)
      clear hc1 d0 d1 d2 hc
      cases hg : g ⟨x, y, u⟩ with
      | true =>
        have HT : Hid (g (l.getD k .zero) = true) := by show _ = _; rw [HR.out]; exact hg
        clear hg
        go_wp2
        go_ret
        exact ⟨.inl ⟨k, by omega, rfl, HT.out, hN.out⟩, hB⟩
      | false =>
        have HF : Hid (∀ j, j < k + 1 → g (l.getD j .zero) = false) := fun j hj => by
          by_cases e : j = k
          · rw [e, HR.out]; exact hg
          · exact hN.out j (by omega)
        clear hg hN
        go_wp2
        go_roundw
        case rel => exact ⟨k + 1, by omega, by go_num, HF, hB⟩
        case measure => simp [intOf]; omega
    · have HF : Hid (∀ j, j < l.length → g (l.getD j .zero) = false) := fun j hj => hN.out j (by omega)
      clear hN hc
      go_wp2
      go_ret
      exact ⟨.inr ⟨rfl, HF.out⟩, hb⟩

theorem any_of_found {l : List Bk} {g : Bk → Bool} {k : Nat} (hk : k < l.length) (h : g (l.getD k .zero) = true) : l.any g = true := by
  rw [List.any_eq_true]
  exact ⟨l[k], List.getElem_mem _, by rw [List.getD_eq_getElem?_getD, List.getElem?_eq_getElem hk] at h; exact h⟩
theorem any_of_none {l : List Bk} {g : Bk → Bool} (h : ∀ j, j < l.length → g (l.getD j .zero) = false) : l.any g = false := by
  rw [List.any_eq_false]
  intro x hx
  obtain ⟨i, hi, rfl⟩ := List.getElem_of_mem hx
  have := h i hi
  rw [List.getD_eq_getElem?_getD, List.getElem?_eq_getElem hi] at this
  simp only [Option.getD_some] at this
  simp [this]

end Go.Proofs.Ytbjlbmofdnkmiaa

/-
  OWN TEXT. Contract of the code: buddy.join.
-/
namespace Go.Proofs.Ytbjlbmofdnkmiaa
open Go Go.RowKit Go.Proofs.Ytbjlbmofdnkmiaa.Kit

set_option maxHeartbeats 1000000 in
theorem joinF_any (W : World) (b1 b2 : Nat) (x o : Int) (ba bo bt : Int) (c1 : W.cell? ⟨b1, 0, none⟩ = some (.int .i64 x)) (c2 : W.cell? ⟨b2, 0, none⟩ = some (.int .i64 o)) :
    Calls Try.prog 106 (#[.agg #[.int .i64 ba, .int .i64 bo, .int .i64 bt]] ++ #[.pointer (some ⟨b1, 0, none⟩), .pointer (some ⟨b2, 0, none⟩)]) W fun e W' => e = .returned (.bool (isB x o ⟨ba, bo, bt⟩)) ∧ Below W.heap.size W W' := by
  have hb0 := below_box W (.cells #[.int .i64 ba, .int .i64 bo, .int .i64 bt] 63)
  have d1 := keep c1 hb0
  have d2 := keep c2 hb0
  clear c1 c2
  by_cases g1 : ba = x
  · have HF : Hid ((bo == o) = isB x o ⟨ba, bo, bt⟩) := by
      show _ = decide (_ ∧ _)
      rw [show (bo == o) = decide (bo = o) from rfl]
      simp [g1]
    have g1' : (ba == x) = true := by simpa using g1
    clear g1
    go_enter Try.func106, Try.ntmps106
    go_wp2
    go_ret
    exact ⟨ret_bool HF.out, hb0⟩
  · have HF : Hid (false = isB x o ⟨ba, bo, bt⟩) := by
      show _ = decide (_ ∧ _)
      simp [g1]
    have g1' : (ba == x) = false := by simpa using g1
    clear g1
    go_enter Try.func106, Try.ntmps106
    go_wp2
    go_ret
    exact ⟨ret_bool HF.out, hb0⟩

theorem joinF_call (args : Array Value) (W : World) : (callFunc 106 args).run Try.prog W = .ok (.enter 106 args) W := by kernel_rfl

/-- What the loop of join knows: the zone behind the pointer, its row; the order in its box. -/
structure JnI (w : World) (base zb g cap ob : Nat) (f t : Int) (tv : Value) (l : List Bk) (n : Nat) (O : Int) (W : World) : Prop where
  b : Bu2 g zb w W
  box : ZBox W zb (.int .i64 f) (.int .i64 t) (.slice (some ⟨g, 0, none⟩) n cap) tv
  own : W.ownsRow base 63 3 (.slice (some ⟨g, 0, none⟩) n cap) n (bvals l)
  ord : W.cell? ⟨ob, 0, none⟩ = some (.int .i64 O)
  fz : W.frozen? ⟨ob, 0, none⟩ = false
theorem JnI.step {w : World} {base zb g cap ob : Nat} {f t : Int} {tv : Value} {l : List Bk} {n : Nat} {O : Int} {W W' : World} (h : JnI w base zb g cap ob f t tv l n O W) (hb : Below W.heap.size W W') : JnI w base zb g cap ob f t tv l n O W' :=
  ⟨h.b.trans (.of_below hb), h.box.below hb, owns_below h.own hb (Nat.le_refl _), keep h.ord hb, (hb.frozen (p := ⟨ob, 0, none⟩) (World.block_lt_of_cell? W _ h.ord)).trans h.fz⟩
theorem JnI.del {w : World} {base zb g cap ob : Nat} {f t : Int} {tv : Value} {l m : List Bk} {n k : Nat} {O : Int} {W W' : World} (h : JnI w base zb g cap ob f t tv l n O W) (hb : But g W W') (own : W'.ownsRow base 63 3 (.slice (some ⟨g, 0, none⟩) k cap) k (bvals m)) (hgz : g ≠ zb) (hgo : ob ≠ g) (hzo : ob ≠ zb) :
    JnI w base zb g cap ob f t tv m k O (W'.setCell ⟨zb, 2, none⟩ (.slice (some ⟨g, 0, none⟩) k cap)) := by
  have hbt : But zb W' (W'.setCell ⟨zb, 2, none⟩ (.slice (some ⟨g, 0, none⟩) k cap)) := (But.refl _ _).setCell _
  refine ⟨(h.b.trans (.of_but_g hb)).trans (.of_but_z hbt), (h.box.but hb (Ne.symm hgz)).set2 _, own_but own hbt hgz, hbt.cell (hb.cell h.ord hgo) hzo, ?_⟩
  have h1 := World.block_lt_of_cell? W _ h.ord
  have h2 := hb.block ob h1 hgo
  have h3 := hbt.block ob (Nat.lt_of_lt_of_le h1 hb.size) hzo
  exact (World.frozen?_of_block (a := ⟨ob, 0, none⟩) (h3.trans h2)).trans h.fz
theorem JnI.inc {w : World} {base zb g cap ob : Nat} {f t : Int} {tv : Value} {l : List Bk} {n : Nat} {O : Int} {W : World} (h : JnI w base zb g cap ob f t tv l n O W) (hgo : ob ≠ g) (hzo : ob ≠ zb) (ho : w.heap.size ≤ ob) (P : Int) : JnI w base zb g cap ob f t tv l n P (W.setCell ⟨ob, 0, none⟩ (.int .i64 P)) := by
  have hbt : But ob W (W.setCell ⟨ob, 0, none⟩ (.int .i64 P)) := (But.refl _ _).setCell _
  refine ⟨⟨hbt.os.trans h.b.os, hbt.tape.trans h.b.tape, hbt.output.trans h.b.output, Nat.le_trans h.b.size hbt.size, fun k hk h1 h2 => (hbt.block k (Nat.lt_of_lt_of_le hk h.b.size) (by omega)).trans (h.b.block k hk h1 h2)⟩, h.box.but hbt (Ne.symm hzo), own_but h.own hbt (Ne.symm hgo), World.cell?_setCell_same _ _ _ h.ord, by simpa using h.fz⟩

set_option maxHeartbeats 4000000 in
theorem join_any (w : World) (base zb g n cap : Nat) (f t : Int) (tv : Value) (l : List Bk) (a o : Int) (hz : newOk f t)
    (Z : ZBox w zb (.int .i64 f) (.int .i64 t) (.slice (some ⟨g, 0, none⟩) n cap) tv) (own : w.ownsRow base 63 3 (.slice (some ⟨g, 0, none⟩) n cap) n (bvals l)) (hgz : g ≠ zb) (hn : n ≤ 256)
    (hI : Inc l) (hL : ∀ b ∈ l, blkIn f t b.a b.o) (hA : blkIn f t a o) (R : List Bk × Int × Int) (hR : backGo (4 - o).toNat l a o = R) :
    Calls Try.prog 92 #[.pointer (some ⟨zb, 0, none⟩), .int .i64 a, .int .i64 o] w fun e w' => (∃ n', e = .returned (.tuple #[.int .i64 R.2.1, .int .i64 R.2.2]) ∧ n' ≤ n ∧
      ZBox w' zb (.int .i64 f) (.int .i64 t) (.slice (some ⟨g, 0, none⟩) n' cap) tv ∧ w'.ownsRow base 63 3 (.slice (some ⟨g, 0, none⟩) n' cap) n' (bvals R.1) ∧ Bu2 g zb w w') ∧ blkIn f t R.2.1 R.2.2 := by
  obtain ⟨n1, n2, n3, n4, n5⟩ := hz
  have hzl := Z.lt
  have hgl : g < w.heap.size := (own.lt _ rfl).2
  have hb0 := below_box w (.cells #[.int .i64 o] 3)
  obtain ⟨W0, hW0⟩ : ∃ W0, w.alloc (.cells #[.int .i64 o] 3) = W0 := ⟨_, rfl⟩
  have J0 : JnI w base zb g cap w.heap.size f t tv l n o W0 := by
    rw [← hW0]
    exact ⟨.of_below hb0, Z.below hb0, owns_below own hb0 (Nat.le_refl _), by simp, by simp⟩
  have HR : Hid (backGo (4 - o).toNat l a o = R) := hR
  have HW0 : Hid _ := hW0
  have go1 : w.heap.size ≠ g := by omega
  have go2 : w.heap.size ≠ zb := by omega
  clear hW0 hb0 Z own hR
  go_enter Try.func92, Try.ntmps92
  go_wp2_with (rw [HW0.out])
  clear HW0
  go_loopw [1] (fun av W => ∃ (A O : Int) (l' : List Bk) (n' : Nat), av = .int .i64 A ∧ blkIn f t A O ∧ Hid (backGo (4 - O).toNat l' A O = R) ∧ Hid (Inc l') ∧ (∀ b ∈ l', blkIn f t b.a b.o) ∧ n' ≤ n ∧ JnI w base zb g cap w.heap.size f t tv l' n' O W) (fun _ W => (4 - intOf ((W.cell? ⟨w.heap.size, 0, none⟩).getD undef)).toNat)
  case atStart => exact ⟨a, o, l, n, rfl, hA, HR, hI, hL, Nat.le_refl _, J0⟩
  case round =>
    obtain ⟨A, O, l', n', rfl, hA', hG, hI', hL', hn', J⟩ := hrel
    clear J0 HR hI hL hA
    obtain ⟨⟨o0, o4⟩, a1, a2, a3⟩ := id hA'
    obtain ⟨AN, rfl⟩ : ∃ AN : Nat, A = AN := ⟨A.toNat, by omega⟩
    have x2 := J.box.c2
    have z2 := J.box.z2
    have xo := J.ord
    have fo := J.fz
    have hsr := J.b.size
    have HXO : Hid (wr.cell? ⟨w.heap.size, 0, none⟩ = some (.int .i64 O)) := J.ord
    by_cases hO : O < 4
    · obtain ⟨X, hX⟩ : ∃ X, besideA (AN : Int) O = X := ⟨_, rfl⟩
      have HC := beside_any wr AN O ⟨o0, o4⟩ hO (by omega) a3
      rw [hX] at HC
      have HX : Hid (besideA (AN : Int) O = X) := hX
      obtain ⟨m, hm⟩ : ∃ m : Nat, (4 - O).toNat = m + 1 := ⟨(4 - O).toNat - 1, by omega⟩
      have hm2 : (4 - (O + 1)).toNat = m := by omega
      have hG1 : Hid (backGo (m + 1) l' (AN : Int) O = R) := by have := hG.out; rw [hm] at this; exact this
      clear hX hG
      go_wp2_with fail
      go_at_call 105
      refine HC.mono ?_
      rintro e w' ⟨rfl, rfl⟩
      clear HC
      have hbx := below_box wr (.cells #[.int .i64 X] 3)
      have J1 := J.step hbx
      have q1 : (wr.alloc (.cells #[.int .i64 X] 3)).cell? ⟨wr.heap.size, 0, none⟩ = some (.int .i64 X) := by simp
      obtain ⟨W1, hW1⟩ : ∃ W1, wr.alloc (.cells #[.int .i64 X] 3) = W1 := ⟨_, rfl⟩
      rw [hW1] at J1 q1
      have HW1 : Hid _ := hW1
      have y2 := J1.box.c2
      have yo := J1.ord
      have hlen := bowns_len J1.own
      have hHold : HoldsB 106 #[.pointer (some ⟨wr.heap.size, 0, none⟩), .pointer (some ⟨w.heap.size, 0, none⟩)] l' (isB X O) W1 := fun i hi W hb => joinF_any W _ _ X O _ _ _ (keep q1 hb) (keep yo hb)
      have HIx := bIndex_any W1 106 #[.pointer (some ⟨wr.heap.size, 0, none⟩), .pointer (some ⟨w.heap.size, 0, none⟩)] (some ⟨g, 0, none⟩) n' cap l' (isB X O) (blks_own J1.own (by omega)) joinF_call hHold
      clear hHold hW1 hbx J x2 z2 xo fo
      go_wp2_with (first | (rw [HW1.out]) | fail)
      go_at_call 46
      refine HIx.mono ?_
      rintro e W2 ⟨hf, hb2⟩
      have J2 := J1.step hb2
      have q2 := keep q1 hb2
      clear HIx J1 q1 y2 yo hb2 HW1
      have y2 := J2.box.c2
      have z2 := J2.box.z2
      have yo := J2.ord
      have fo := J2.fz
      rcases hf with ⟨k, hk, rfl, hk1, hk2⟩ | ⟨rfl, hk1⟩
      · obtain ⟨N, rfl⟩ : ∃ N, n' = N + 1 := ⟨n' - 1, by omega⟩
        have HD := bDel_any W2 base g N cap k l' (by omega) (by omega) J2.own
        have HE : Hid (l'.eraseIdx k = dropB l' X O) := erase_eq hI'.out hk hk1
        have hh : hasB l' X O = true := has_of hk hk1
        rw [HE.out] at HD
        obtain ⟨A2, hA2⟩ : ∃ A2, (if X < (AN : Int) then X else (AN : Int)) = A2 := ⟨_, rfl⟩
        have hG2 : Hid (backGo (4 - (O + 1)).toNat (dropB l' X O) A2 (O + 1) = R) := by
          show _ = _
          rw [hm2, ← hG1.out, backGo, HX.out, if_pos hh, hA2]
        have hB2 : blkIn f t A2 (O + 1) := by
          have h1 := join_in hA' (by rw [HX.out]; exact hasB_in hh hL') hO
          rw [HX.out, hA2] at h1
          exact h1
        have hL2 : ∀ b ∈ dropB l' X O, blkIn f t b.a b.o := fun b hb => hL' b (dropB_mem hb)
        have hI2 : Hid (Inc (dropB l' X O)) := hI'.out.drop X O
        obtain ⟨D, hD⟩ : ∃ D, dropB l' X O = D := ⟨_, rfl⟩
        rw [hD] at hG2 hL2 hI2 HD
        clear hk1 hk2 HE hh hG1 hI' hL' hD
        go_wp2_with fail
        go_at_call 48
        refine HD.mono ?_
        rintro e W3 ⟨rfl, own3, hb3⟩
        have J3 := J2.del hb3 own3 hgz go1 go2
        have q3 := hb3.cell q2 (by omega)
        have o3 := hb3.cell J2.ord go1
        have B3 := J2.box.but hb3 (Ne.symm hgz)
        have u2 := B3.c2
        have v2 := B3.z2
        have f3 : W3.frozen? ⟨w.heap.size, 0, none⟩ = false := by
          have h2 := hb3.block w.heap.size (World.block_lt_of_cell? W2 _ J2.ord) go1
          exact (World.frozen?_of_block (a := ⟨w.heap.size, 0, none⟩) h2).trans J2.fz
        have J5 := J3.inc go1 go2 (Nat.le_refl _) (O + 1)
        have gw : ¬ (wr.heap.size = zb) := by omega
        have gw2 : ¬ (w.heap.size = zb) := go2
        have gz1 : ¬ (zb = w.heap.size) := by omega
        have gz2 : ¬ (zb = wr.heap.size) := by omega
        clear HD J2 J3 B3 y2 z2 yo fo q2 hb3 own3
        by_cases hXA : X < (AN : Int)
        · obtain rfl : A2 = X := by rw [← hA2, if_pos hXA]
          clear hA2
          go_wp2
          refine ⟨⟨A2, O + 1, D, N, rfl, hB2, hG2, hI2, hL2, by omega, J5⟩, ?_⟩
          rw [J5.ord, HXO.out]
          simp [intOf]; omega
        · obtain rfl : A2 = (AN : Int) := by rw [← hA2, if_neg hXA]
          clear hA2
          go_wp2
          refine ⟨⟨AN, O + 1, D, N, rfl, hB2, hG2, hI2, hL2, by omega, J5⟩, ?_⟩
          rw [J5.ord, HXO.out]
          simp [intOf]; omega
      · have HF : Hid (R = (l', ((AN : Int)), O)) := by
          show _ = _
          rw [← hG1.out, backGo, HX.out, if_neg (by rw [has_none hk1]; simp)]
        clear hk1 hG1 hI'
        go_wp2
        go_region
        all_goals
          have K5 := J2.step (Below.refl _ _).drew
          go_wp2
          go_ret2
          rw [HF.out]
          exact ⟨⟨n', rfl, hn', K5.box, K5.own, K5.b⟩, hA'⟩
    · have HF : Hid (R = (l', ((AN : Int)), O)) := by
        show _ = _
        have := hG.out
        rw [show (4 - O).toNat = 0 by omega] at this
        exact this.symm
      clear hG hI'
      go_wp2
      go_region
      all_goals
        have K5 := J.step (Below.refl _ _).drew
        go_wp2
        go_ret2
        rw [HF.out]
        exact ⟨⟨n', rfl, hn', K5.box, K5.own, K5.b⟩, hA'⟩

end Go.Proofs.Ytbjlbmofdnkmiaa

/-
  OWN TEXT. Contract of the code: buddy.group.
-/
namespace Go.Proofs.Ytbjlbmofdnkmiaa
open Go Go.RowKit Go.Proofs.Ytbjlbmofdnkmiaa.Kit

set_option maxHeartbeats 1000000 in
theorem group_any (w : World) (f t : Int) (fo to_ : Option Addr) (fn fc tn tc : Nat) (a : Int) (h0 : 0 ≤ f) (h1 : f ≤ a) (h2 : a ≤ 256) :
    Calls Try.prog 95 #[.agg #[.int .i64 f, .int .i64 t, .slice fo fn fc, .slice to_ tn tc], .int .i64 a] w fun e w' => e = .returned (.int .i64 ((a - f) / 8)) ∧ Below w.heap.size w w' := by
  have hb1 := below_box w (.cells #[.int .i64 f, .int .i64 t, .slice fo fn fc, .slice to_ tn tc] 44)
  obtain ⟨D, hD⟩ : ∃ D : Nat, a - f = (D : Int) := ⟨(a - f).toNat, by omega⟩
  obtain ⟨N, hq⟩ : ∃ N : Nat, (D : Int) / 8 = (N : Int) := ⟨D / 8, by omega⟩
  rw [hD, hq]
  go_enter Try.func95, Try.ntmps95
  go_wp2
  go_ret
  exact ⟨rfl, hb1⟩

end Go.Proofs.Ytbjlbmofdnkmiaa

/-
  OWN TEXT. Contract of slices.ContainsFunc over blocks, whatever the closure.
-/
namespace Go.Proofs.Ytbjlbmofdnkmiaa
open Go Go.RowKit Go.Proofs.Ytbjlbmofdnkmiaa.Kit

set_option maxHeartbeats 1000000 in
theorem bContains_any (w : World) (F : Nat) (caps : Array Value) (ao : Option Addr) (n cap : Nat) (l : List Bk) (g : Bk → Bool) (h : Blks w ao n l)
    (hcall : ∀ args W, (callFunc F args).run Try.prog W = .ok (.enter F args) W) (hc : HoldsB F caps l g w) :
    Calls Try.prog 89 #[.slice ao n cap, .func (.func F) #[] caps] w fun e w' => e = .returned (.bool (l.any g)) ∧ Below w.heap.size w w' := by
  go_enter Try.func89, Try.ntmps89
  go_wp2_with fail
  go_at_call 46
  refine (bIndex_any w F caps ao n cap l g h hcall hc).mono ?_
  rintro e w1 ⟨hf, hb⟩
  rcases hf with ⟨k, hk, rfl, hg, _⟩ | ⟨rfl, hg⟩
  · have HF : Hid (l.any g = true) := any_of_found hk hg
    clear hg hc
    go_wp2
    go_ret
    exact ⟨ret_bool HF.out.symm, hb⟩
  · have HF : Hid (l.any g = false) := any_of_none hg
    clear hg hc
    go_wp2
    go_ret
    exact ⟨ret_bool HF.out.symm, hb⟩

end Go.Proofs.Ytbjlbmofdnkmiaa

/-
  OWN TEXT. Contract of slices.Insert at one block.
-/
namespace Go.Proofs.Ytbjlbmofdnkmiaa
open Go Go.RowKit Go.Proofs.Ytbjlbmofdnkmiaa.Kit

/-- A list with one more at a place. -/
def insB (l : List Bk) (i : Nat) (b : Bk) : List Bk := l.take i ++ b :: l.drop i
theorem insB_vals (l : List Bk) (i : Nat) (b : Bk) : bvals (insB l i b) = bvals (l.take i) ++ ([.int .i64 b.a, .int .i64 b.o, .int .i64 b.t] ++ bvals (l.drop i)) := by
  unfold insB
  rw [bvals_append]
  rfl

/-- What is returned: a row of n blocks, the old block or a new one. -/
def RetRow (w w' : World) (base g n : Nat) (l : List Bk) (e : Ending) : Prop :=
  ∃ g' cap', e = .returned (.slice (some ⟨g', 0, none⟩) n cap') ∧ w'.ownsRow base 63 3 (.slice (some ⟨g', 0, none⟩) n cap') n (bvals l) ∧ But g w w' ∧ (g' = g ∨ w.heap.size ≤ g')

theorem ov_false (w : World) (g gv off lb cb la ca : Nat) (cur vs : List Value) (cap kA : Nat) (R : Row w 63 3 g cap cur) (hv : w.heap[gv]? = some (.cells vs.toArray 63 (0, 0))) (hk : vs.length = kA) (hne : gv ≠ g) (hc : 0 < cap) :
    (callFunc 107 #[.slice (some ⟨gv, 0, none⟩) la ca, .slice (some ⟨g, off, none⟩) lb cb]).run Try.prog w = .ok (.value (.bool false)) w := by
  have hz : ∀ w, (Go.sizeOf 63).run Try.prog w = .ok 3 w := fun w => Try.sizeOf63 w
  rw [run_callFunc_extern Try.func107 (by kernel_rfl) (by kernel_rfl) (by kernel_rfl) (e := Extern.SlicesOverlaps.overlaps #[26, 26] #[4]) (by kernel_rfl),
    Lib.run_overlaps_apart w 26 4 63 Try.underlying26 3 hz ⟨gv, 0, none⟩ ⟨g, off, none⟩ la ca lb cb hne 63 63 kA (cap * 3) (by simp [World.shape?, hv, hk]) (by simp [World.shape?, R.h, R.len]) (by omega) (by simp [World.frozen?, hv]) (by simp [World.frozen?, hv])]
  rfl

set_option maxHeartbeats 2000000 in
theorem bIns_end (w : World) (base g N cap i gv : Nat) (l : List Bk) (b : Bk) (hi : i = N) (hN : N ≤ 300) (own : w.ownsRow base 63 3 (.slice (some ⟨g, 0, none⟩) N cap) N (bvals l)) (hv : w.heap[gv]? = some (.cells #[.int .i64 b.a, .int .i64 b.o, .int .i64 b.t] 63 (0, 0))) (_hne : gv ≠ g) :
    Calls Try.prog 94 #[.slice (some ⟨g, 0, none⟩) N cap, .int .i64 i, .slice (some ⟨gv, 0, none⟩) 1 1] w fun e w' => RetRow w w' base g (N + 1) (insB l i b) e := by
  obtain ⟨i1, hj, hy0, hy1, hy2⟩ := info_parts info_block
  have hll := bowns_len own
  obtain ⟨hbg, hnc, cur, R, hcur⟩ := Row.of own
  have hm := R.m
  have hml : N + 1 ≤ maxLen := by unfold maxLen; omega
  unfold maxLen at hm
  have hRl := R.len
  have hvc : ∀ j v, ([.int .i64 b.a, .int .i64 b.o, .int .i64 b.t] : List Value)[j]? = some v → ∀ W : World, W.heap[gv]? = some (.cells #[.int .i64 b.a, .int .i64 b.o, .int .i64 b.t] 63 (0, 0)) → W.cell? ((⟨gv, 0, none⟩ : Addr).add j) = some v := by
    intro j v hjv W hW
    rw [add_at, Nat.zero_add]
    simp only [World.cell?, hW]
    simpa using hjv
  have hv1 : ∀ u ∈ ([.int .i64 b.a, .int .i64 b.o, .int .i64 b.t] : List Value), u.oneCell' = true := ints_oneCell .i64 [_, _, _]
  obtain ⟨vs, hvs⟩ : ∃ vs : List Value, [.int .i64 b.a, .int .i64 b.o, .int .i64 b.t] = vs := ⟨_, rfl⟩
  have hvl : vs.length = 3 := by rw [← hvs]; rfl
  have HVA : (#[.int .i64 b.a, .int .i64 b.o, .int .i64 b.t] : Array Value) = vs.toArray := by rw [← hvs]
  have HI : Hid (bvals (insB l i b) = bvals (l.take i) ++ (vs ++ bvals (l.drop i))) := by show _ = _; rw [insB_vals, hvs]
  rw [HVA] at hv hvc
  rw [hvs] at hvc hv1
  have HVC : Hid _ := hvc
  clear hvs HVA hvc
  have a1 : (i : Int) ≤ N := by omega
  have a2 : ((1 : Int) == 0) = false := by decide
  have a3 : (N : Int) ≤ cap := by omega
  have HE : Hid (bvals l ++ vs = bvals (insB l i b)) := by
    show _ = _
    rw [HI.out, List.take_of_length_le (by omega), List.drop_of_length_le (by omega)]
    simp [bvals]
  subst hi
  have hc1 : ∀ j v, vs[j]? = some v → w.cell? ((⟨gv, 0, none⟩ : Addr).add j) = some v := fun j v h => HVC.out j v h w hv
  by_cases hroom : i + 1 ≤ cap
  · go_enter Try.func94, Try.ntmps94
    go_wp2_with (at_builtin; refine wpList_append_fits _ rfl (.tmp 23) (.tmp 24) 26 rfl base 63 i1 3 Try.underlying26 hj hy1 g i cap (bvals l) rfl own ⟨gv, 0, none⟩ 1 1 vs rfl hvl hc1 hv1 hroom ?_; intro w1 ho1 hb1)
    all_goals
      go_ret
      exact ⟨g, cap, rfl, by rw [← HE.out]; exact ho1, ⟨hb1.os, hb1.tape, hb1.output, hb1.size, fun k hk hne => hb1.block k hk (by intro g; exact hne (by simpa using g))⟩, .inl rfl⟩
  · have hold : ∀ j v, (bvals l)[j]? = some v → w.cell? ((⟨g, 0, none⟩ : Addr).add j) = some v := own.cells rfl
    obtain ⟨cap', W, cur', hrun, R', ht, hc', hb'⟩ := grow_some (P := Try.prog) w 26 26 63 i1 _ 3 Try.underlying26 hj hy0 hy1 rfl ⟨g, 0, none⟩ i cap (bvals l) own.1 hold ⟨gv, 0, none⟩ 1 1 vs hvl hc1 (by omega) hml (by rw [hy2]; omega)
    have ow' := R'.owns (base := base) (n := i + 1) (by have := R.lt; omega) hc' ht
    have HR : Hid _ := hrun
    clear hrun
    go_enter Try.func94, Try.ntmps94
    go_wp2_with (at_builtin; refine Lib.wpList_append_run _ rfl (.tmp 23) (.tmp 24) 26 26 rfl _ _ rfl rfl _ _ HR.out ?_)
    all_goals
      go_ret
      exact ⟨w.heap.size, cap', rfl, by rw [← HE.out]; exact ow', .of_below hb', .inr (Nat.le_refl _)⟩

end Go.Proofs.Ytbjlbmofdnkmiaa
