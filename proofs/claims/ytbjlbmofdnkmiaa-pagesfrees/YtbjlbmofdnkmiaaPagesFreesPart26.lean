/-
  OWN TEXTS, bundled: RefHk, SameI, SameZ.
-/
import Derived.Test.YtbjlbmofdnkmiaaPagesFreesPart25
import Derived.Test.YtbjlbmofdnkmiaaPagesFreesPart1
import Derived.Test.YtbjlbmofdnkmiaaPagesFreesPart2

/-
  OWN TEXT. The document's answer: HeapFree, a single page that is kept (written by sxhk.py).
-/
namespace Go.Proofs.Ytbjlbmofdnkmiaa
open Go Go.RowKit Go.Proofs.Ytbjlbmofdnkmiaa.Kit

theorem take_getD'' (l : List Int) (k : Nat) (h : k < l.length) {b : Int} (hx : l.getD k 0 = b) : l.take (k + 1) = l.take k ++ [b] := by
  rw [List.getD_eq_getElem?_getD, List.getElem?_eq_getElem h] at hx
  simp only [Option.getD_some] at hx
  rw [List.take_succ_eq_append_getElem h, hx]
theorem lsPages_mem {l : List Ls} {x : Ls} (h : 0 < (lsPages l x).length) : ∃ L ∈ l, L.pages = lsPages l x := by
  unfold lsPages at *
  cases e : l.find? (fun a => decide (a.c = x.c ∧ a.z = x.z ∧ a.t = x.t)) with
  | none => rw [e] at h; simp at h
  | some a => exact ⟨a, List.mem_of_find?_eq_some e, rfl⟩
theorem lsPages_eight {H : Hp} (h : LssOk H) {l : List Ls} {x : Ls} (e : l = H.lists) : (lsPages l x).length ≤ 8 := by
  by_cases h0 : 0 < (lsPages l x).length
  · obtain ⟨L, hL, he⟩ := lsPages_mem h0
    rw [← he]
    exact (lss_mem h (e ▸ hL)).n.2
  omega
theorem four_back {x : Hx} (h : HMay x.hp) {H : Hp} {X : Ls} {ps : List Int} {p : Int} {l : List Bk} (hps : lsPages H.lists X = ps) (e : H = { x.hp with live := l }) (h4 : 4 ≤ ps.length) : CanBacks H ((ps ++ [p]).take 4) := by
  rw [List.take_append_of_le_length h4]
  have hm : HMid H := by
    rw [e]
    have h := HMid.of h
    exact ⟨⟨h.zs.n, h.zs.m0, h.zs.m1, h.zs.f0, h.zs.f1, h.zs.t1⟩, ⟨fun i hi => ⟨(h.ls.ok i hi).c, (h.ls.ok i hi).z, (h.ls.ok i hi).t, (h.ls.ok i hi).n, (h.ls.ok i hi).p⟩, h.ls.ord⟩, h.cpus, h.cnt⟩
  obtain ⟨L, hL, he⟩ := lsPages_mem (l := H.lists) (x := X) (by rw [hps]; omega)
  have := (hm.four hL 4).1
  rwa [he, hps] at this

set_option maxRecDepth 10000 in
set_option maxHeartbeats 4000000 in
theorem heapFree_okk (w : World) (x : Hx) (cpu p : Int) (i : Nat) (hx : x.At w) (hM : HMay x.hp) (hc : 0 ≤ cpu ∧ cpu ≤ x.cpus - 1) (hi : i < x.live.length) (hia : (x.live.getD i .zero).a = p) (ho0 : (x.live.getD i .zero).o = 0) :
    Calls Try.prog 16 #[.agg #[.slice x.zo x.zn x.zc, .slice x.mo x.mn x.mc, .int .i64 x.cpus, .slice x.lo x.ln x.lc, .slice x.vo x.vn x.vc], .int .i64 cpu, .int .i64 p] w fun e w' => (∃ y2 : Hx, e = .returned (.tuple #[.agg #[.slice y2.zo y2.zn y2.zc, .slice y2.mo y2.mn y2.mc, .int .i64 y2.cpus, .slice y2.lo y2.ln y2.lc, .slice y2.vo y2.vn y2.vc], .int .i64 0]) ∧ y2.At w' ∧ y2.hp = releaseH { x.hp with live := x.hp.live.eraseIdx i } cpu (x.live.getD i .zero)) ∧ Below w.heap.size w w' := by
  have HC : ∀ W, x.At W → Calls Try.prog 12 #[.agg #[.slice x.zo x.zn x.zc, .slice x.mo x.mn x.mc, .int .i64 x.cpus, .slice x.lo x.ln x.lc, .slice x.vo x.vn x.vc]] W fun e w' => e = .returned (.bool true) ∧ Below W.heap.size W w' := fun W hW => (heapMay_any W x hW).mono fun e w1 h1 => by
    obtain ⟨⟨r, rfl, hc⟩, hb⟩ := h1
    cases r with
    | false => exact absurd (hc.mpr hM) (by simp)
    | true => exact ⟨rfl, hb⟩
  have hcp : 1 ≤ x.cpus ∧ x.cpus ≤ 4 := hM.cpus
  have hvl := hx.live.len
  have hvr := hx.live.reach
  obtain ⟨ob, tb, hbi⟩ : ∃ ob tb, x.live.getD i .zero = ⟨p, ob, tb⟩ := ⟨(x.live.getD i .zero).o, (x.live.getD i .zero).t, by rw [← hia]⟩
  have hbl := hM.lv.ok i hi
  rw [show x.hp.live = x.live from rfl, hbi] at hbl
  have hbo0 := hbl.o.1
  dsimp only at hbo0
  have hne : ∀ j, j < x.live.length → j ≠ i → (x.live.getD j .zero).a ≠ p := live_unique hM.lv hi hia
  have ho := ho0
  rw [hbi] at ho
  dsimp only at ho
  obtain ⟨zI, hzI⟩ : ∃ z, zIdx x.hp p = z := ⟨_, rfl⟩
  have hzlt : zI < 2 := by rw [← hzI]; exact zIdx_lt _ _
  have hadx : Adj x := hp_adj hM x rfl
  have hzn2 : x.zn = 2 := by have h1 := hM.zs.n; have h2 : x.hp.zones.length = x.zs.length := (by show (x.zs.map _).length = _; rw [List.length_map]); have := hx.zones.len; omega
  have hp0 : 0 ≤ p := hbl.a.1
  have hp1 : p < 256 := hbl.a.2
  have B0 := Below.refl w.heap.size w
  refine sx_enter (args := [_, _, _]) 117 Try.func16 rfl rfl rfl ?_
  intro A f
  refine wp_seq ?_
  refine sx_list ?_
  refine l_box f rfl rfl rfl rfl rfl ?_; clear f A; intro b1 W2 eb1 hb3 rb1 A f; dsimp only [Value.cells] at rb1
  have z_B0_b1 := B0.size; rw [eb1] at z_B0_b1
  replace B0 := Below.next B0 hb3
  refine l_alloc (z := .agg #[.slice none 0 0, .slice none 0 0, .int .i64 0, .slice none 0 0, .slice none 0 0]) f rfl rfl rfl rfl (by kernel_rfl) ?_; clear f A; intro b4 W5 eb4 hb6 rb4 A f; dsimp only [Value.cells] at rb4
  have o_b1_b4 : b1 < b4 := by have := row_lt rb1; omega
  have z_B0_b4 := B0.size; rw [eb4] at z_B0_b4
  replace B0 := Below.next B0 hb6; replace rb1 := row_next rb1 hb6
  refine l_do f rfl rfl rfl (y_assign rfl rfl) ?_; clear f A; intro A f
  refine wpList_nil ?_
  refine x_tn ?_
  refine wp_seq ?_
  refine wp_seq ?_
  refine sx_list ?_
  refine l_do f rfl rfl rfl (y_loadN (vs := [_, _, _, _, _]) rfl rfl (ag rfl) rfl (rowls (rowq rb1) _ _ ⟨rfl, rfl, rfl, rfl, rfl, trivial⟩)) ?_; clear f A; intro A f
  refine l_call f rfl rfl rfl (IsCall.mk' (cap := []) rfl rfl rfl) (pl rfl) (HC _ (hx.below B0)) ?_
  clear f A
  rintro _ W7 ⟨rfl, hb8⟩
  refine ⟨_, rfl, ?_⟩
  intro A f
  replace B0 := Below.next B0 hb8; replace rb1 := row_next rb1 hb8; replace rb4 := row_next rb4 hb8
  refine l_do f rfl rfl rfl (y_not rfl rfl) ?_; clear f A; intro A f
  refine wpList_nil ?_
  refine x_tn ?_
  refine x_condF f rfl ?_
  refine wp_skip ?_
  refine x_tn ?_
  refine wp_seq ?_
  refine wp_seq ?_
  refine sx_list ?_
  refine l_do f rfl rfl rfl (y_move rfl rfl) ?_; clear f A; intro A f
  refine l_do f rfl rfl rfl (y_field rfl rfl (fo rfl)) ?_; clear f A; intro A f
  refine l_do f rfl rfl rfl (y_load1 rfl rfl (ag rfl) (rowl (rowq rb1) rfl)) ?_; clear f A; intro A f
  refine l_do f rfl rfl rfl (y_sub rfl rfl rfl rfl (by omega)) ?_; clear f A; intro A f
  refine l_callif _ f rfl rfl rfl (IsCall.mk' (cap := []) rfl rfl rfl) (pl rfl) (in_c _ _ _ _) ?_ ?_
  · clear f A; intro c9 W11 hb10 A f
    replace B0 := Below.next B0 hb10; replace rb1 := row_next rb1 hb10; replace rb4 := row_next rb4 hb10
    refine l_do f rfl rfl rfl (y_not rfl rfl) ?_; clear f A; intro A f
    refine wpList_nil ?_
    refine x_tn ?_
    refine x_condF f rfl ?_
    refine wp_skip ?_
    refine x_tn ?_
    refine wp_seq ?_
    refine sx_list ?_
    skip
    refine l_do f rfl rfl rfl (y_assign rfl rfl) ?_; clear f A; intro A f
    refine wpList_nil ?_
    refine x_tn ?_
    refine wp_seq ?_
    refine wp_seq ?_
    refine sx_list ?_
    refine l_do f rfl rfl rfl (y_assign rfl rfl) ?_; clear f A; intro A f
    refine wpList_nil ?_
    refine x_tn ?_
    refine wp_block ?_
    refine x_loop (fun n A W => ∃ (k : Nat) (od : Int), n = x.vn - k ∧ k ≤ x.vn ∧ od = (if i < k then ob else -1) ∧ Fr A 117 [(1, .int .i64 cpu), (2, .int .i64 p), (3, .pointer (some ⟨b1, 0, none⟩)), (6, .pointer (some ⟨b4, 0, none⟩)), (8, .int .i64 od), (9, .int .i64 (k : Nat))] ∧ Below w.heap.size w W ∧ W.heap[b1]? = some (.cells #[.slice x.zo x.zn x.zc, .slice x.mo x.mn x.mc, .int .i64 x.cpus, .slice x.lo x.ln x.lc, .slice x.vo x.vn x.vc] 28 (0, 0)) ∧ W.heap[b4]? = some (.cells #[.slice none 0 0, .slice none 0 0, .int .i64 0, .slice none 0 0, .slice none 0 0] 28 (0, 0))) (n0 := x.vn) (⟨0, -1, rfl, Nat.zero_le _, by simp, f.sub ⟨rfl, rfl, rfl, rfl, rfl, rfl, trivial⟩, B0, rb1, rb4⟩) ?_
    clear f A
    clear B0 rb1 rb4
    rintro n A W12 ⟨k, od, hn, hk, hod, f, B0, rb1, rb4⟩
    refine wp_seq ?_
    refine wp_seq ?_
    refine sx_list ?_
    refine l_do f rfl rfl rfl (y_move rfl rfl) ?_; clear f A; intro A f
    refine l_do f rfl rfl rfl (y_field rfl rfl (fo rfl)) ?_; clear f A; intro A f
    refine l_do f rfl rfl rfl (y_load1 rfl rfl (ag rfl) (rowl (rowq rb1) rfl)) ?_; clear f A; intro A f
    refine l_do f rfl rfl rfl (y_len rfl rfl (sl rfl)) ?_; clear f A; intro A f
    refine l_if _ f rfl rfl rfl (y_lss rfl rfl rfl) ?_ ?_
    · clear f A; intro c13 A f
      refine wpList_nil ?_
      refine x_tn ?_
      refine x_condT f rfl ?_
      refine wp_skip ?_
      refine x_tn ?_
      refine wp_seq ?_
      refine wp_block ?_
      refine wp_seq ?_
      refine sx_list ?_
      refine l_do f rfl rfl rfl (y_field rfl rfl (fo rfl)) ?_; clear f A; intro A f
      refine l_do f rfl rfl rfl (y_load1 rfl rfl (ag rfl) (rowl (rowq rb1) rfl)) ?_; clear f A; intro A f
      refine l_do f rfl rfl rfl (y_move rfl rfl) ?_; clear f A; intro A f
      obtain ⟨gk, ok, bak, bok, btk, hak, c0k, c1k, c2k, hXk⟩ := hx.live.at_.at (k) (by have := hx.live.len; omega)
      replace c0k := St.of c0k; replace c1k := St.of c1k; replace c2k := St.of c2k
      refine l_do f rfl rfl rfl (y_index rfl rfl (by first | rfl | assumption) rfl (es rfl) (by omega)) ?_; clear f A; intro A f
      refine l_do f rfl rfl rfl (y_field rfl rfl (fo rfl)) ?_; clear f A; intro A f
      refine l_do f rfl rfl rfl (y_load1 rfl rfl (ag rfl) (by first | assumption | exact St.q c0k B0 | exact St.q c1k B0 | exact St.q c2k B0)) ?_; clear f A; intro A f
      refine l_do f rfl rfl rfl (y_move rfl rfl) ?_; clear f A; intro A f
      refine l_if _ f rfl rfl rfl (y_eql rfl rfl rfl) ?_ ?_
      · clear f A; intro c14 A f
        refine wpList_nil ?_
        refine x_tn ?_
        refine x_condT f rfl ?_
        refine sx_list ?_
        refine l_do f rfl rfl rfl (y_field rfl rfl (fo rfl)) ?_; clear f A; intro A f
        refine l_do f rfl rfl rfl (y_load1 rfl rfl (ag rfl) (rowl (rowq rb1) rfl)) ?_; clear f A; intro A f
        refine l_do f rfl rfl rfl (y_move rfl rfl) ?_; clear f A; intro A f
        refine l_do f rfl rfl rfl (y_index rfl rfl (by first | rfl | assumption) rfl (es rfl) (by omega)) ?_; clear f A; intro A f
        refine l_do f rfl rfl rfl (y_field rfl rfl (fo rfl)) ?_; clear f A; intro A f
        refine l_do f rfl rfl rfl (y_load1 rfl rfl (ag rfl) (by first | assumption | exact St.q c0k B0 | exact St.q c1k B0 | exact St.q c2k B0)) ?_; clear f A; intro A f
        skip
        refine l_do f rfl rfl rfl (y_assign rfl rfl) ?_; clear f A; intro A f
        refine wpList_nil ?_
        refine x_bn ?_
        refine x_tn ?_
        refine sx_list ?_
        refine l_do f rfl rfl rfl (y_move rfl rfl) ?_; clear f A; intro A f
        refine l_do f rfl rfl rfl (y_add rfl rfl rfl rfl (by omega)) ?_; clear f A; intro A f
        refine l_do f rfl rfl rfl (y_assign rfl rfl) ?_; clear f A; intro A f
        refine wpList_nil ?_
        refine x_tn ?_
        exact ⟨x.vn - (k + 1), by omega, k + 1, _, rfl, by omega, (by have ek : k = i := (by by_cases e : k = i; (exact e); exact absurd c14 (by have := hne k (by omega) e; rw [hXk.out] at this; exact this)); rw [if_pos (by omega)]; have := hXk.out; rw [ek, hbi] at this; injection this with q1 q2 q3; exact q2.symm), f.sub ⟨rfl, rfl, rfl, rfl, rfl, rfl, trivial⟩, B0, rb1, rb4⟩
      clear f A; intro c14 A f
      refine wpList_nil ?_
      refine x_tn ?_
      refine x_condF f rfl ?_
      refine wp_skip ?_
      refine x_bn ?_
      refine x_tn ?_
      refine sx_list ?_
      refine l_do f rfl rfl rfl (y_move rfl rfl) ?_; clear f A; intro A f
      refine l_do f rfl rfl rfl (y_add rfl rfl rfl rfl (by omega)) ?_; clear f A; intro A f
      refine l_do f rfl rfl rfl (y_assign rfl rfl) ?_; clear f A; intro A f
      refine wpList_nil ?_
      refine x_tn ?_
      exact ⟨x.vn - (k + 1), by omega, k + 1, _, rfl, by omega, (by rw [hod]; by_cases e : i < k; (rw [if_pos e, if_pos (by omega)]); (by_cases e2 : k = i; (exact absurd (by have := hXk.out; rw [e2, hbi] at this; injection this with q1 _ _; exact q1.symm) c14); rw [if_neg e, if_neg (by omega)])), f.sub ⟨rfl, rfl, rfl, rfl, rfl, rfl, trivial⟩, B0, rb1, rb4⟩
    clear f A; intro c13 A f
    refine wpList_nil ?_
    refine x_tn ?_
    refine x_condF f rfl ?_
    refine wp_exit ?_
    refine x_te ?_
    refine x_te ?_
    refine x_bh ?_
    refine x_tn ?_
    refine wp_seq ?_
    refine wp_seq ?_
    refine sx_list ?_
    refine l_do f rfl rfl rfl (y_move rfl rfl) ?_; clear f A; intro A f
    have hob : od = ob := by rw [hod, if_pos (by omega)]
    refine l_if _ f rfl rfl rfl (y_lss rfl rfl rfl) ?_ ?_
    · intro c15; exfalso; omega
    clear f A; intro c15 A f
    refine wpList_nil ?_
    refine x_tn ?_
    refine x_condF f rfl ?_
    refine wp_skip ?_
    refine x_tn ?_
    refine wp_seq ?_
    refine sx_list ?_
    refine l_do f rfl rfl rfl (y_loadN (vs := [_, _, _, _, _]) rfl rfl (ag rfl) rfl (rowls (rowq rb1) _ _ ⟨rfl, rfl, rfl, rfl, rfl, trivial⟩)) ?_; clear f A; intro A f
    have ly_b1 := row_lt rb1
    have ly_b4 := row_lt rb4
    have hyB := B0.size
    obtain ⟨s5, hs5⟩ : ∃ n, n = W12.heap.size := ⟨_, rfl⟩
    refine l_call f rfl rfl rfl (IsCall.mk' (cap := []) rfl rfl rfl) (pl rfl) (heapCopy_own _ x (hx.below B0)) ?_
    clear f A
    rintro _ W16 ⟨⟨y, rfl, ey, C, haw0⟩, hb17⟩
    refine ⟨_, rfl, ?_⟩
    rw [← hs5] at C haw0
    intro A f
    replace B0 := Below.next B0 hb17; replace rb1 := row_next rb1 hb17; replace rb4 := row_next rb4 hb17
    have aw_b1 : Away b1 y := haw0 _ (by omega)
    have aw_b4 : Away b4 y := haw0 _ (by omega)
    have hzn : 0 < y.zn := by have h1 := C.at_.zones.len; have h2 : y.zs.length = y.hp.zones.length := (by show _ = (y.zs.map _).length; rw [List.length_map]); rw [ey] at h2; have := hM.zs.n; omega
    obtain ⟨gz, HY⟩ := C.hz hzn
    have hgB := HY.gB
    have hgl := HY.lt hzn
    clear C haw0
    have HYc := HY
    refine l_as (z := .agg #[.slice none 0 0, .slice none 0 0, .int .i64 0, .slice none 0 0, .slice none 0 0]) f rfl rfl rfl rfl (by kernel_rfl) rfl rfl (fun _ => rfl) (fun _ => rfl) rfl (by intro u hu; simp [Value.cells] at hu; rcases hu with rfl | rfl | rfl | rfl | rfl <;> rfl) ?_; clear f A; intro b18 W19 eb18 hb20 rb18 A f
    dsimp only [Value.cells] at rb18
    have hpb18 := hb20
    have o_b1_b18 : b1 < b18 := by have := row_lt rb1; omega
    have o_b4_b18 : b4 < b18 := by have := row_lt rb4; omega
    have z_B0_b18 := B0.size; rw [eb18] at z_B0_b18
    replace B0 := Below.next B0 hb20; replace HY := HY.below hb20; replace rb1 := row_next rb1 hb20; replace rb4 := row_next rb4 hb20
    refine wpList_nil ?_
    refine x_tn ?_
    refine wp_seq ?_
    refine sx_list ?_
    have aw_b18 : Away b18 y := away_old HYc.at_ (by omega)
    have hg10 : gz < b18 := by omega
    clear HYc
    refine l_do f rfl rfl rfl (y_field rfl rfl (fo rfl)) ?_; clear f A; intro A f
    refine l_do f rfl rfl rfl (y_load1 rfl rfl (ag rfl) (rowl (rowq rb18) rfl)) ?_; clear f A; intro A f
    refine l_do f rfl rfl rfl (y_move rfl rfl) ?_; clear f A; intro A f
    refine l_do f rfl rfl rfl (y_move rfl rfl) ?_; clear f A; intro A f
    have lw_b1 := row_lt rb1
    have lw_b4 := row_lt rb4
    have lw_b18 := row_lt rb18
    have hgw := HY.lt hzn
    refine l_call f rfl rfl rfl (IsCall.mk' (cap := []) rfl rfl rfl) (pl rfl) (without_any _ y.vo y.vn y.vc y.live p od HY.at_.live) ?_
    clear f A
    rintro _ W21 ⟨bo, m, c, rfl, ov, hb22⟩
    refine ⟨_, rfl, ?_⟩
    intro A f
    replace B0 := Below.next B0 hb22; replace HY := HY.below hb22; replace rb1 := row_next rb1 hb22; replace rb4 := row_next rb4 hb22; replace rb18 := row_next rb18 hb22
    rw [hob] at ov
    have hbof : ∀ a, bo = some a → a.block ≠ gz := fun a ha => by have := (owns_blk ov a ha).1; omega
    have hbr : m * 24 ≤ 140737488351232 := by have h1 := bowns_len ov; have h2 := dropB_lenH y.live p ob; have h3 := HY.at_.live.len; have h4 := HY.at_.live.reach; omega
    replace HY : HZ W21 _ gz (y.withVo (dropB y.live p ob) bo m c) := HY.withVo ⟨bowns_len ov, hbr, blks_of_owns ov⟩ (fun _ => hbof)
    replace aw_b1 : Away b1 (y.withVo (dropB y.live p ob) bo m c) := away_withVo aw_b1 (fun _ a ha => by have := (owns_blk ov a ha).1; omega)
    replace aw_b4 : Away b4 (y.withVo (dropB y.live p ob) bo m c) := away_withVo aw_b4 (fun _ a ha => by have := (owns_blk ov a ha).1; omega)
    replace aw_b18 : Away b18 (y.withVo (dropB y.live p ob) bo m c) := away_withVo aw_b18 (fun _ a ha => by have := (owns_blk ov a ha).1; omega)
    have ey1 : (y.withVo (dropB y.live p ob) bo m c).hp = { x.hp with live := x.hp.live.eraseIdx i } := by rw [← drop_erase hM.lv hi hbi, ← ey]; rfl
    clear ov
    refine l_do f rfl rfl rfl (y_move rfl rfl) ?_; clear f A; intro A f
    refine l_do f rfl rfl rfl (y_ext rfl rfl rfl) ?_; clear f A; intro A f
    refine l_do f rfl rfl rfl (y_ext rfl rfl rfl) ?_; clear f A; intro A f
    refine l_do f rfl rfl rfl (y_field rfl rfl (fo rfl)) ?_; clear f A; intro A f
    refine l_store f rfl rfl rfl rfl rfl rb18 (sz rfl) rfl (Nat.le_of_ble_eq_true rfl) rfl ?_
    clear rb18; intro W23 hb24 rb18; dsimp only [setL, over, Value.cells] at rb18; replace B0 := Below.thenBut B0 hb24 (by omega); replace rb1 := But.row hb24 rb1 (by omega); replace rb4 := But.row hb24 rb4 (by omega); replace HY := HY.but hb24 (by omega) aw_b18
    refine wpList_nil ?_
    refine x_tn ?_
    refine wp_seq ?_
    refine wp_seq ?_
    refine sx_list ?_
    refine l_do f rfl rfl rfl (y_move rfl rfl) ?_; clear f A; intro A f
    refine l_if _ f rfl rfl rfl (y_gtr rfl rfl rfl) ?_ ?_
    · intro c25; exfalso; omega
    clear f A; intro c25 A f
    refine wpList_nil ?_
    refine x_tn ?_
    refine x_condF f rfl ?_
    refine wp_skip ?_
    refine x_tn ?_
    refine wp_seq ?_
    refine sx_list ?_
    refine l_do f rfl rfl rfl (y_loadN (vs := [_, _, _, _, _]) rfl rfl (ag rfl) rfl (rowls (rowq rb1) _ _ ⟨rfl, rfl, rfl, rfl, rfl, trivial⟩)) ?_; clear f A; intro A f
    refine l_do f rfl rfl rfl (y_move rfl rfl) ?_; clear f A; intro A f
    refine l_call f rfl rfl rfl (IsCall.mk' (cap := []) rfl rfl rfl) (pl rfl) (by have e := zoneAt_c W23 x p (hx.below B0) hzn2 hadx; rw [hzI] at e; exact e) ?_; clear f A; rintro _ W26 ⟨rfl, hb27⟩; refine ⟨_, rfl, ?_⟩; intro A f; replace B0 := Below.next B0 hb27; replace HY := HY.below hb27; replace rb1 := row_next rb1 hb27; replace rb4 := row_next rb4 hb27; replace rb18 := row_next rb18 hb27
    refine l_do f rfl rfl rfl (y_assign rfl rfl) ?_; clear f A; intro A f
    refine wpList_nil ?_
    refine x_tn ?_
    refine wp_seq ?_
    refine sx_quiet (by kernel_rfl) (by kernel_rfl) ?_
    obtain ⟨gq, oq, zq, foq, fnq, fcq, toq, tnq, tcq, haq, c0q, c1q, c2q, c3q, hatq, hXq⟩ := hx.zones.at (zI) (by omega)
    replace c0q := St.of c0q; replace c1q := St.of c1q; replace c2q := St.of c2q; replace c3q := St.of c3q
    have hzin := zone_in hM.zs hp0 hp1
    rw [hzI, hp_zone, hXq.out] at hzin
    dsimp only at hzin
    have hznw := hzin.1.new
    unfold newOk at hznw
    have hznl := hzin.1.len
    have htl := hatq.types.len
    obtain ⟨q, hq, hql, htq⟩ := type_at hzin.1 hzin.2.1 hzin.2.2
    have hql2 : (q : Int) < 64 := by omega
    obtain ⟨gt, ot, tI, hat, c0t, hXt⟩ := hatq.types.at_.at q hql
    rw [show ot + q = ot + q * 1 by omega] at c0t
    replace c0t := St.of c0t
    have htI : typeZ (x.hp.zones.getD zI ⟨0, 0, [], []⟩) p = tI := by rw [hp_zone, hXq.out]; exact htq.trans hXt.out
    refine q_do f rfl rfl rfl (y_field rfl rfl (fo rfl)) ?_; clear f A; intro A f
    refine q_do f rfl rfl rfl (y_load1 rfl rfl (ag rfl) (rowl (rowq rb1) rfl)) ?_; clear f A; intro A f
    refine q_do f rfl rfl rfl (y_move rfl rfl) ?_; clear f A; intro A f
    refine q_do f rfl rfl rfl (y_index rfl rfl (by first | rfl | assumption) rfl (es rfl) (by omega)) ?_; clear f A; intro A f
    refine q_do f rfl rfl rfl (y_field rfl rfl (fo rfl)) ?_; clear f A; intro A f
    refine q_do f rfl rfl rfl (y_load1 rfl rfl (ag rfl) (by first | assumption | exact St.q c0q B0 | exact St.q c1q B0 | exact St.q c2q B0 | exact St.q c3q B0 | exact St.q c0t B0)) ?_; clear f A; intro A f
    refine q_do f rfl rfl rfl (y_move rfl rfl) ?_; clear f A; intro A f
    refine q_do f rfl rfl rfl (y_field rfl rfl (fo rfl)) ?_; clear f A; intro A f
    refine q_do f rfl rfl rfl (y_load1 rfl rfl (ag rfl) (rowl (rowq rb1) rfl)) ?_; clear f A; intro A f
    refine q_do f rfl rfl rfl (y_move rfl rfl) ?_; clear f A; intro A f
    refine q_do f rfl rfl rfl (y_index rfl rfl (by first | rfl | assumption) rfl (es rfl) (by omega)) ?_; clear f A; intro A f
    refine q_do f rfl rfl rfl (y_field rfl rfl (fo rfl)) ?_; clear f A; intro A f
    refine q_do f rfl rfl rfl (y_load1 rfl rfl (ag rfl) (by first | assumption | exact St.q c0q B0 | exact St.q c1q B0 | exact St.q c2q B0 | exact St.q c3q B0 | exact St.q c0t B0)) ?_; clear f A; intro A f
    refine q_do f rfl rfl rfl (y_sub rfl rfl rfl rfl (by omega)) ?_; clear f A; intro A f
    refine q_do f rfl rfl rfl (y_quo rfl rfl rfl (by decide) hq (by omega)) ?_; clear f A; intro A f
    refine q_do f rfl rfl rfl (y_index rfl rfl (by first | rfl | assumption) rfl (es rfl) (by omega)) ?_; clear f A; intro A f
    refine q_do f rfl rfl rfl (y_load1 rfl rfl (ag rfl) (by first | assumption | exact St.q c0q B0 | exact St.q c1q B0 | exact St.q c2q B0 | exact St.q c3q B0 | exact St.q c0t B0)) ?_; clear f A; intro A f
    refine q_do f rfl rfl rfl (y_assign rfl rfl) ?_; clear f A; intro A f
    refine wpQuiet_nil ?_; intro W29 hb28; replace B0 := Below.next B0 hb28; replace HY := HY.below hb28; replace rb1 := row_next rb1 hb28; replace rb4 := row_next rb4 hb28; replace rb18 := row_next rb18 hb28
    refine x_tn ?_
    refine wp_seq ?_
    refine sx_list ?_
    have hyn : 0 < (y.withVo (dropB y.live p ob) bo m c).zn := hzn
    obtain ⟨W6, hW6⟩ : ∃ w6, w6 = W29 := ⟨_, rfl⟩
    have BW : Below W6.heap.size W6 W29 := by rw [hW6]; exact Below.refl _ _
    have HY6 : HZ W6 s5 gz (y.withVo (dropB y.live p ob) bo m c) := by rw [hW6]; exact HY
    clear HY
    have hw6 : w.heap.size ≤ W6.heap.size := by rw [hW6]; exact B0.size
    have hord1 : RiseL (y.withVo (dropB y.live p ob) bo m c).ls := rise_of (by rw [ey1]; exact ⟨fun i hi => ⟨(hM.ls.ok i hi).c, (hM.ls.ok i hi).z, (hM.ls.ok i hi).t, (hM.ls.ok i hi).n, (hM.ls.ok i hi).p⟩, hM.ls.ord⟩)
    have hgl6 : gz < W6.heap.size := HY6.lt hyn
    have hl24 : (y.withVo (dropB y.live p ob) bo m c).ln ≤ 24 := by have h1 := lists_few hM.ls hM.cpus.2; have h2 := HY6.at_.lists.len; have h3 : (y.withVo (dropB y.live p ob) bo m c).hp.lists.length = (y.withVo (dropB y.live p ob) bo m c).ls.length := (by show (List.map _ _).length = _; rw [List.length_map]); rw [ey1] at h3; have h4 : x.hp.lists.length = (y.withVo (dropB y.live p ob) bo m c).ls.length := h3; omega
    have l6_b4 : b4 < W6.heap.size := by rw [hW6]; exact row_lt rb4
    have l6_b18 : b18 < W6.heap.size := by rw [hW6]; exact row_lt rb18
    refine l_do f rfl rfl rfl (y_loadN (vs := [_, _, _, _, _]) rfl rfl (ag rfl) rfl (rowls (rowq rb18) _ _ ⟨rfl, rfl, rfl, rfl, rfl, trivial⟩)) ?_; clear f A; intro A f
    refine l_do f rfl rfl rfl (y_move rfl rfl) ?_; clear f A; intro A f
    refine l_do f rfl rfl rfl (y_move rfl rfl) ?_; clear f A; intro A f
    refine l_do f rfl rfl rfl (y_move rfl rfl) ?_; clear f A; intro A f
    refine l_call f rfl rfl rfl (IsCall.mk' (cap := []) rfl rfl rfl) (pl rfl) (listOf_any _ (y.withVo (dropB y.live p ob) bo m c) ⟨cpu, (zI : Nat), tI, []⟩ (HY6.below BW).at_) ?_
    clear f A
    rintro _ W30 ⟨lo2, nl, lc2, rfl, own, hnl, hb31⟩
    refine ⟨_, rfl, ?_⟩
    intro A f
    replace own := owns_weaken own BW.size
    replace B0 := Below.next B0 hb31; replace BW := Below.next BW hb31; replace rb4 := row_next rb4 hb31; replace rb18 := row_next rb18 hb31
    obtain ⟨ps, hps⟩ : ∃ ps, lsPages (y.withVo (dropB y.live p ob) bo m c).hp.lists ⟨cpu, (zI : Nat), tI, []⟩ = ps := ⟨_, rfl⟩
    rw [hps] at own hnl
    have hn8 : nl ≤ 8 := by rw [hnl, ← hps]; exact lsPages_eight hM.ls (by rw [ey1])
    refine l_do f rfl rfl rfl (y_move rfl rfl) ?_; clear f A; intro A f
    obtain ⟨gb, hgb⟩ : ∃ g, g = W30.heap.size := ⟨_, rfl⟩
    refine l_opR (R := fun v W => v = .slice (some ⟨gb, 0, none⟩) 1 1 ∧ Below W30.heap.size W30 W ∧ W.heap[gb]? = some (.cells #[.int .i64 p] 3 (0, 0))) f rfl rfl rfl ⟨_, _, bs_exec f rfl rfl (bs_int1 _ _), by rw [hgb], (Below.refl _ _).alloc (Nat.le_refl _) _, by rw [hgb]; show (Array.push _ _)[_]? = _; rw [Array.getElem?_push, if_pos rfl]⟩ ?_
    clear f A
    rintro _ W32 ⟨rfl, hb33, rgb⟩ A f
    replace B0 := Below.next B0 hb33; replace BW := Below.next BW hb33; replace rb4 := row_next rb4 hb33; replace rb18 := row_next rb18 hb33; replace own := owns_below own hb33 (Nat.le_refl _)
    refine l_opR (R := fun v W => ∃ gp cp, v = .slice (some ⟨gp, 0, none⟩) (nl + 1) cp ∧ W.ownsRow W6.heap.size 3 1 (.slice (some ⟨gp, 0, none⟩) (nl + 1) cp) (nl + 1) (vals (ps ++ [p])) ∧ Below W6.heap.size W32 W) f rfl rfl rfl (by obtain ⟨g1, c1, W1, h1, h2, h3⟩ := appI_run W32 _ W6.heap.size lo2 nl lc2 ps p gb own (by omega) BW.size rgb; exact ⟨_, W1, append_exec f rfl rfl rfl h1, g1, c1, rfl, h2, h3⟩) ?_
    clear f A
    rintro _ W34 ⟨gp, cp, rfl, own1, hb35⟩ A f
    clear own
    replace BW := BW.trans hb35
    replace B0 := B0.trans (hb35.mono hw6)
    have hgp : W6.heap.size ≤ gp := (owns_blk own1 _ rfl).1
    have hgpl := (owns_blk own1 _ rfl).2.1
    have hcp := owns_cap own1
    replace rb4 := below_row hb35 rb4 l6_b4
    replace rb18 := below_row hb35 rb18 l6_b18
    have hN1 : Nums W34 (some ⟨gp, 0, none⟩) (nl + 1) (ps ++ [p]) := nums_of_owns own1 (by omega)
    refine l_do f rfl rfl rfl (y_assign rfl rfl) ?_; clear f A; intro A f
    refine wpList_nil ?_
    refine x_tn ?_
    refine wp_seq ?_
    refine wp_seq ?_
    refine sx_list ?_
    refine l_do f rfl rfl rfl (y_move rfl rfl) ?_; clear f A; intro A f
    refine l_do f rfl rfl rfl (y_len rfl rfl (sl rfl)) ?_; clear f A; intro A f
    refine l_if _ f rfl rfl rfl (y_gtr rfl rfl rfl) ?_ ?_
    · clear f A; intro c36 A f
      refine wpList_nil ?_
      refine x_tn ?_
      refine x_condT f rfl ?_
      refine wp_seq ?_
      refine wp_seq ?_
      refine sx_list ?_
      obtain ⟨s9, hs9⟩ : ∃ n, n = W34.heap.size := ⟨_, rfl⟩
      have l9_b4 : b4 < s9 := by rw [hs9]; exact row_lt rb4
      have l9_b18 : b18 < s9 := by rw [hs9]; exact row_lt rb18
      refine l_do f rfl rfl rfl (y_assign rfl rfl) ?_; clear f A; intro A f
      refine wpList_nil ?_
      refine x_tn ?_
      refine wp_block ?_
      obtain ⟨nf, hnf⟩ : ∃ n : Nat, n = 4 := ⟨_, rfl⟩
      have hgpz : gp ≠ gz := by omega
      have HYs := HY6.below BW
      have hcan := four_back (p := p) hM hps ey1 (by omega : 4 ≤ ps.length)
      refine x_loop (fun n A W => ∃ (j : Nat) (zs : List Zc), n = nf - j ∧ j ≤ nf ∧ Fr A 117 [(1, .int .i64 cpu), (2, .int .i64 p), (6, .pointer (some ⟨b4, 0, none⟩)), (10, .pointer (some ⟨b18, 0, none⟩)), (11, .int .i64 (zI : Nat)), (12, .int .i64 tI), (13, .slice (some ⟨gp, 0, none⟩) (nl + 1) cp), (14, .int .i64 (j : Nat))] ∧ Below w.heap.size w W ∧ HZ W s5 gz ((y.withVo (dropB y.live p ob) bo m c).withZ zs) ∧ ((y.withVo (dropB y.live p ob) bo m c).withZ zs).hp = backs (y.withVo (dropB y.live p ob) bo m c).hp ((ps ++ [p]).take j) ∧ Nums W (some ⟨gp, 0, none⟩) (nl + 1) (ps ++ [p]) ∧ W.heap[b4]? = some (.cells #[.slice none 0 0, .slice none 0 0, .int .i64 0, .slice none 0 0, .slice none 0 0] 28 (0, 0)) ∧ W.heap[b18]? = some (.cells #[.slice (y.withVo (dropB y.live p ob) bo m c).zo (y.withVo (dropB y.live p ob) bo m c).zn (y.withVo (dropB y.live p ob) bo m c).zc, .slice (y.withVo (dropB y.live p ob) bo m c).mo (y.withVo (dropB y.live p ob) bo m c).mn (y.withVo (dropB y.live p ob) bo m c).mc, .int .i64 (y.withVo (dropB y.live p ob) bo m c).cpus, .slice (y.withVo (dropB y.live p ob) bo m c).lo (y.withVo (dropB y.live p ob) bo m c).ln (y.withVo (dropB y.live p ob) bo m c).lc, .slice (y.withVo (dropB y.live p ob) bo m c).vo (y.withVo (dropB y.live p ob) bo m c).vn (y.withVo (dropB y.live p ob) bo m c).vc] 28 (0, 0)) ∧ Away b4 ((y.withVo (dropB y.live p ob) bo m c).withZ zs) ∧ Away b18 ((y.withVo (dropB y.live p ob) bo m c).withZ zs) ∧ s9 ≤ W.heap.size) (n0 := nf) (⟨0, (y.withVo (dropB y.live p ob) bo m c).zs, rfl, Nat.zero_le _, f.sub ⟨rfl, rfl, rfl, rfl, rfl, rfl, rfl, rfl, trivial⟩, B0, HYs, rfl, hN1, rb4, rb18, aw_b4, aw_b18, Nat.le_of_eq hs9⟩) ?_
      clear f A
      clear B0 HYs hN1 rb4 rb18 aw_b4 aw_b18 hs9
      rintro n A W37 ⟨j, zs, hn, hj, f, B0, HYz, hzs, hN1, rb4, rb18, aw_b4, aw_b18, hs9⟩
      refine wp_seq ?_
      refine wp_seq ?_
      refine sx_list ?_
      refine l_do f rfl rfl rfl (y_move rfl rfl) ?_; clear f A; intro A f
      refine l_if _ f rfl rfl rfl (y_lss rfl rfl rfl) ?_ ?_
      · clear f A; intro c38 A f
        refine wpList_nil ?_
        refine x_tn ?_
        refine x_condT f rfl ?_
        refine wp_skip ?_
        refine x_tn ?_
        refine wp_seq ?_
        refine wp_block ?_
        obtain ⟨gg, og, vg, hag, c0g, hXg⟩ := hN1.at_.at (j) (by have := hN1.len; omega)
        replace c0g := St.of c0g
        cases hag
        rw [show 0 + j = 0 + j * 1 by omega] at c0g
        have hcb : CanBack ((y.withVo (dropB y.live p ob) bo m c).withZ zs).hp vg 0 := by
          have e := canBacks_at hcan (k := j) (p := vg) (by rw [List.length_take, List.length_append]; omega) (by rw [← hXg.out]; simp only [List.getD_eq_getElem?_getD]; rw [List.getElem?_take_of_lt (by omega)])
          rw [List.take_take, Nat.min_eq_left (by omega)] at e
          rw [hzs]; exact e
        have hadj : Adj ((y.withVo (dropB y.live p ob) bo m c).withZ zs) := adj_backs (show Adj (y.withVo (dropB y.live p ob) bo m c) from hp_adj hM y ey) hzs
        obtain ⟨Wd, hWd0⟩ : ∃ Wd, Wd = W37 := ⟨_, rfl⟩
        have HSr : ∀ wx : World, (fun (wx : World) => Bu2 gz b18 Wd wx ∧ wx.heap[b18]? = some (.cells #[.slice (y.withVo (dropB y.live p ob) bo m c).zo (y.withVo (dropB y.live p ob) bo m c).zn (y.withVo (dropB y.live p ob) bo m c).zc, .slice (y.withVo (dropB y.live p ob) bo m c).mo (y.withVo (dropB y.live p ob) bo m c).mn (y.withVo (dropB y.live p ob) bo m c).mc, .int .i64 (y.withVo (dropB y.live p ob) bo m c).cpus, .slice (y.withVo (dropB y.live p ob) bo m c).lo (y.withVo (dropB y.live p ob) bo m c).ln (y.withVo (dropB y.live p ob) bo m c).lc, .slice (y.withVo (dropB y.live p ob) bo m c).vo (y.withVo (dropB y.live p ob) bo m c).vn (y.withVo (dropB y.live p ob) bo m c).vc] 28 (0, 0))) wx → wx.heap[b18]? = some (.cells #[.slice (y.withVo (dropB y.live p ob) bo m c).zo (y.withVo (dropB y.live p ob) bo m c).zn (y.withVo (dropB y.live p ob) bo m c).zc, .slice (y.withVo (dropB y.live p ob) bo m c).mo (y.withVo (dropB y.live p ob) bo m c).mn (y.withVo (dropB y.live p ob) bo m c).mc, .int .i64 (y.withVo (dropB y.live p ob) bo m c).cpus, .slice (y.withVo (dropB y.live p ob) bo m c).lo (y.withVo (dropB y.live p ob) bo m c).ln (y.withVo (dropB y.live p ob) bo m c).lc, .slice (y.withVo (dropB y.live p ob) bo m c).vo (y.withVo (dropB y.live p ob) bo m c).vn (y.withVo (dropB y.live p ob) bo m c).vc] 28 (0, 0)) := fun wx h => h.2
        have k0g : StC (fun (wx : World) => Bu2 gz b18 Wd wx ∧ wx.heap[b18]? = some (.cells #[.slice (y.withVo (dropB y.live p ob) bo m c).zo (y.withVo (dropB y.live p ob) bo m c).zn (y.withVo (dropB y.live p ob) bo m c).zc, .slice (y.withVo (dropB y.live p ob) bo m c).mo (y.withVo (dropB y.live p ob) bo m c).mn (y.withVo (dropB y.live p ob) bo m c).mc, .int .i64 (y.withVo (dropB y.live p ob) bo m c).cpus, .slice (y.withVo (dropB y.live p ob) bo m c).lo (y.withVo (dropB y.live p ob) bo m c).ln (y.withVo (dropB y.live p ob) bo m c).lc, .slice (y.withVo (dropB y.live p ob) bo m c).vo (y.withVo (dropB y.live p ob) bo m c).vn (y.withVo (dropB y.live p ob) bo m c).vc] 28 (0, 0))) ⟨gp, 0 + j * 1, none⟩ (.int .i64 vg) := fun wx h => h.1.cell (by rw [hWd0]; exact St.now c0g) hgpz (by omega)
        skip
        refine sx_held (fun (wx : World) => Bu2 gz b18 Wd wx ∧ wx.heap[b18]? = some (.cells #[.slice (y.withVo (dropB y.live p ob) bo m c).zo (y.withVo (dropB y.live p ob) bo m c).zn (y.withVo (dropB y.live p ob) bo m c).zc, .slice (y.withVo (dropB y.live p ob) bo m c).mo (y.withVo (dropB y.live p ob) bo m c).mn (y.withVo (dropB y.live p ob) bo m c).mc, .int .i64 (y.withVo (dropB y.live p ob) bo m c).cpus, .slice (y.withVo (dropB y.live p ob) bo m c).lo (y.withVo (dropB y.live p ob) bo m c).ln (y.withVo (dropB y.live p ob) bo m c).lc, .slice (y.withVo (dropB y.live p ob) bo m c).vo (y.withVo (dropB y.live p ob) bo m c).vn (y.withVo (dropB y.live p ob) bo m c).vc] 28 (0, 0))) [5, 6] (by kernel_rfl) (by kernel_rfl) (blind_in (blind_then (blind_then (blind_in (blind_then (blind_then (blind_body))))))) (⟨by rw [hWd0]; exact Bu2.start gz b18 rfl, row_next rb18 ((Below.refl _ _).drew)⟩) ?_
        generalize hWd : ({ W37 with drawn := W37.drawn + 1 } : World) = W39
        have hS : Bu2 gz b18 Wd W39 := by rw [hWd0]; exact Bu2.start gz b18 hWd
        have hdr := drawn_b hWd
        clear hWd
        replace B0 := Below.next B0 hdr; replace rb4 := row_next rb4 hdr; replace rb18 := row_next rb18 hdr
        replace HYz := HYz.below hdr
        replace hN1 := hN1.below hdr
        have hdz := hdr.size
        refine h_do f rfl rfl rfl rfl (y_loadN (vs := [_, _, _, _, _]) rfl rfl (ag rfl) rfl (rowls HSr _ _ ⟨rfl, rfl, rfl, rfl, rfl, trivial⟩)) ?_; clear f A; intro A f
        refine h_do f rfl rfl rfl rfl (y_move rfl rfl) ?_; clear f A; intro A f
        refine h_do f rfl rfl rfl rfl (y_move rfl rfl) ?_; clear f A; intro A f
        refine h_do f rfl rfl rfl rfl (y_index rfl rfl (by first | rfl | assumption) rfl (es rfl) (by omega)) ?_; clear f A; intro A f
        refine h_do f rfl rfl rfl rfl (y_load1 rfl rfl (ag rfl) (by first | assumption)) ?_; clear f A; intro A f
        refine h_call f rfl rfl rfl rfl (IsCall.mk' (cap := []) rfl rfl rfl) (pl rfl) (returned_ok _ _ gz ((y.withVo (dropB y.live p ob) bo m c).withZ zs) vg 0 HYz hcb hadj) ?_
        clear f A
        rintro _ W40 ⟨rfl, zk, hzk, HY2, hb2, haw2⟩
        have hS2 : Bu2 gz b18 Wd W40 := hS.trans (Bu2.of_but_g hb2)
        replace rb18 := But.row hb2 rb18 (by omega)
        replace rb4 := But.row hb2 rb4 (by omega)
        replace hN1 := nums_but hN1 hb2 (fun _ a ha => by cases ha; exact hgpz)
        replace B0 := Below.thenBut B0 hb2 (by omega)
        replace aw_b4 := haw2 _ (by omega) aw_b4
        replace aw_b18 := haw2 _ (by omega) aw_b18
        have hz2 := hb2.size
        refine ⟨_, rfl, ⟨hS2, rb18⟩, ?_⟩
        intro A f
        refine h_store f rfl rfl rfl rfl rfl rfl rb18 (sz rfl) rfl (Nat.le_of_ble_eq_true rfl) rfl (fun _ h hr => ⟨hS2.trans (Bu2.of_but_z h), hr⟩) ?_
        clear rb18; intro W41 hb42 rb18; dsimp only [setL, over, Value.cells] at rb18; replace B0 := Below.thenBut B0 hb42 (by omega); replace rb4 := But.row hb42 rb4 (by omega); replace HY2 := HY2.but hb42 (by omega) aw_b18; replace hN1 := nums_but hN1 hb42 (fun _ a ha => by cases ha; dsimp only; omega); have hz3 := hb42.size
        refine h_nil ?_
        refine x_bn ?_
        refine x_tn ?_
        refine sx_list ?_
        refine l_do f rfl rfl rfl (y_move rfl rfl) ?_; clear f A; intro A f
        refine l_do f rfl rfl rfl (y_add rfl rfl rfl rfl (by omega)) ?_; clear f A; intro A f
        obtain ⟨s9, hs9⟩ : ∃ n, n = W41.heap.size := ⟨_, rfl⟩
        have l9_b4 : b4 < s9 := by rw [hs9]; exact row_lt rb4
        have l9_b18 : b18 < s9 := by rw [hs9]; exact row_lt rb18
        refine l_do f rfl rfl rfl (y_assign rfl rfl) ?_; clear f A; intro A f
        refine wpList_nil ?_
        refine x_tn ?_
        exact ⟨nf - (j + 1), by omega, j + 1, _, rfl, by omega, f.sub ⟨rfl, rfl, rfl, rfl, rfl, rfl, rfl, rfl, trivial⟩, B0, HY2, (setZ_hp hzk).trans (by rw [hzs, take_getD'' (ps ++ [p]) j (by rw [List.length_append]; omega) hXg.out, backs_append]; rfl), hN1, rb4, rb18, aw_b4, aw_b18, by omega⟩
      clear f A; intro c38 A f
      refine wpList_nil ?_
      refine x_tn ?_
      refine x_condF f rfl ?_
      refine wp_exit ?_
      refine x_te ?_
      refine x_te ?_
      refine x_bh ?_
      refine x_tn ?_
      refine sx_list ?_
      refine l_do f rfl rfl rfl (y_move rfl rfl) ?_; clear f A; intro A f
      refine l_do f rfl rfl rfl (y_sliceLo (H := 4) rfl rfl (by omega) (by omega)) ?_; clear f A; intro A f
      refine l_do f rfl rfl rfl (y_assign rfl rfl) ?_; clear f A; intro A f
      refine wpList_nil ?_
      refine x_tn ?_
      refine wp_seq ?_
      have HSr : ∀ wx : World, (fun (wx : World) => wx.heap[b18]? = some (.cells #[.slice (y.withVo (dropB y.live p ob) bo m c).zo (y.withVo (dropB y.live p ob) bo m c).zn (y.withVo (dropB y.live p ob) bo m c).zc, .slice (y.withVo (dropB y.live p ob) bo m c).mo (y.withVo (dropB y.live p ob) bo m c).mn (y.withVo (dropB y.live p ob) bo m c).mc, .int .i64 (y.withVo (dropB y.live p ob) bo m c).cpus, .slice (y.withVo (dropB y.live p ob) bo m c).lo (y.withVo (dropB y.live p ob) bo m c).ln (y.withVo (dropB y.live p ob) bo m c).lc, .slice (y.withVo (dropB y.live p ob) bo m c).vo (y.withVo (dropB y.live p ob) bo m c).vn (y.withVo (dropB y.live p ob) bo m c).vc] 28 (0, 0))) wx → wx.heap[b18]? = some (.cells #[.slice (y.withVo (dropB y.live p ob) bo m c).zo (y.withVo (dropB y.live p ob) bo m c).zn (y.withVo (dropB y.live p ob) bo m c).zc, .slice (y.withVo (dropB y.live p ob) bo m c).mo (y.withVo (dropB y.live p ob) bo m c).mn (y.withVo (dropB y.live p ob) bo m c).mc, .int .i64 (y.withVo (dropB y.live p ob) bo m c).cpus, .slice (y.withVo (dropB y.live p ob) bo m c).lo (y.withVo (dropB y.live p ob) bo m c).ln (y.withVo (dropB y.live p ob) bo m c).lc, .slice (y.withVo (dropB y.live p ob) bo m c).vo (y.withVo (dropB y.live p ob) bo m c).vn (y.withVo (dropB y.live p ob) bo m c).vc] 28 (0, 0)) := fun wx h => h
      have ej : j = 4 := by omega
      rw [ej] at hzs
      have hAt := HYz.at_
      have hN9 := nums_drop hN1 (k := 4) (by omega)
      have hlw := B0.size
      refine sx_held (fun (wx : World) => wx.heap[b18]? = some (.cells #[.slice (y.withVo (dropB y.live p ob) bo m c).zo (y.withVo (dropB y.live p ob) bo m c).zn (y.withVo (dropB y.live p ob) bo m c).zc, .slice (y.withVo (dropB y.live p ob) bo m c).mo (y.withVo (dropB y.live p ob) bo m c).mn (y.withVo (dropB y.live p ob) bo m c).mc, .int .i64 (y.withVo (dropB y.live p ob) bo m c).cpus, .slice (y.withVo (dropB y.live p ob) bo m c).lo (y.withVo (dropB y.live p ob) bo m c).ln (y.withVo (dropB y.live p ob) bo m c).lc, .slice (y.withVo (dropB y.live p ob) bo m c).vo (y.withVo (dropB y.live p ob) bo m c).vn (y.withVo (dropB y.live p ob) bo m c).vc] 28 (0, 0))) [5, 6, 7] (by kernel_rfl) (by kernel_rfl) (blind_then (blind_body)) (row_next rb18 ((Below.refl _ _).drew)) ?_
      generalize hWd : ({ W37 with drawn := W37.drawn + 1 } : World) = W43
      have hdr := drawn_b hWd
      clear hWd
      have hdz := hdr.size
      replace B0 := Below.next B0 hdr; replace hAt := hAt.below hdr; replace hN9 := hN9.below hdr; replace rb4 := row_next rb4 hdr; replace rb18 := row_next rb18 hdr
      refine h_do f rfl rfl rfl rfl (y_loadN (vs := [_, _, _, _, _]) rfl rfl (ag rfl) rfl (rowls HSr _ _ ⟨rfl, rfl, rfl, rfl, rfl, trivial⟩)) ?_; clear f A; intro A f
      refine h_do f rfl rfl rfl rfl (y_move rfl rfl) ?_; clear f A; intro A f
      refine h_do f rfl rfl rfl rfl (y_move rfl rfl) ?_; clear f A; intro A f
      refine h_do f rfl rfl rfl rfl (y_move rfl rfl) ?_; clear f A; intro A f
      refine h_do f rfl rfl rfl rfl (y_move rfl rfl) ?_; clear f A; intro A f
      have l26 := row_lt rb4
      refine h_call f rfl rfl rfl rfl (IsCall.mk' (cap := []) rfl rfl rfl) (pl rfl) (words_any _ _ _ _ _ hN9.len hN9.reach hN9.at_) ?_
      clear f A
      rintro _ W44 ⟨bo9, c9, rfl, ow9, hb45⟩
      have hz9 := hb45.size
      refine ⟨_, rfl, row_next rb18 hb45, ?_⟩
      intro A f
      have hr9 := hN9.reach
      replace B0 := Below.next B0 hb45; replace hAt := hAt.below hb45; replace hN9 := hN9.below hb45; replace rb4 := row_next rb4 hb45; replace rb18 := row_next rb18 hb45
      have hNw := nums_of_owns ow9 hr9
      have hlr6 := row_lt rb4
      have hbo9 : ∀ a, bo9 = some a → a.block ≠ b4 := fun a ha => by have := (owns_blk ow9 a ha).1; omega
      refine h_call f rfl rfl rfl rfl (IsCall.mk' (cap := []) rfl rfl rfl) (pl rfl) (setList_any _ ((y.withVo (dropB y.live p ob) bo m c).withZ zs) ⟨cpu, (zI : Nat), tI, ((ps ++ [p]).drop 4)⟩ bo9 _ c9 hAt hord1 (by show (y.withVo (dropB y.live p ob) bo m c).ln ≤ 100; omega) hNw) ?_
      clear f A
      rintro _ W46 ⟨ls, lo, ln, lc, rfl, hAt2, hls, hb47, hlo2, hmm2⟩
      refine ⟨_, rfl, row_next rb18 hb47, ?_⟩
      intro A f
      replace B0 := Below.next B0 hb47; replace hAt := hAt.below hb47; replace hN9 := hN9.below hb47; replace hNw := hNw.below hb47; replace rb4 := row_next rb4 hb47; replace rb18 := row_next rb18 hb47
      have awf : Away b4 (((y.withVo (dropB y.live p ob) bo m c).withZ zs).withL ls lo ln lc) := away_withL aw_b4 (fun _ a h => by have := hlo2 a h; omega) (fun l hl => by rcases hmm2 l hl with h | rfl; (exact .inl h); exact .inr hbo9)
      have awz : ∀ e9, (((y.withVo (dropB y.live p ob) bo m c).withZ zs).withL ls lo ln lc).zo = some e9 → e9.block ≠ b4 := fun e9 hc => by have h1 : (y.withVo (dropB y.live p ob) bo m c).zo = some ⟨gz, 0, none⟩ := HYz.ez; have h2 : (y.withVo (dropB y.live p ob) bo m c).zo = some e9 := hc; rw [h1] at h2; cases h2; dsimp only; omega
      refine h_store f rfl rfl rfl rfl rfl rfl rb4 (sz rfl) rfl (Nat.le_of_ble_eq_true rfl) rfl (fun _ h _ => But.row h rb18 (by omega)) ?_
      clear rb4; intro W48 hb49 rb4; dsimp only [setL, over, Value.cells] at rb4; replace B0 := Below.thenBut B0 hb49 (by omega); replace rb18 := But.row hb49 rb18 (by omega); replace hAt2 := at_butA hAt2 hb49 awf awz
      refine h_do f rfl rfl rfl rfl (y_assign rfl rfl) ?_; clear f A; intro A f
      refine h_nil ?_
      refine x_tn ?_
      refine wp_ret ?_
      refine x_retc1 f rfl rfl rfl (ag rfl) rb4 rfl ?_
      -- return 0: ¬c15@48 ¬c25@62 c36@97 ¬c38@99
      refine ⟨⟨((y.withVo (dropB y.live p ob) bo m c).withZ zs).withL ls lo ln lc, rfl, hAt2, ?_⟩, B0⟩
      have ezI : zIdx (y.withVo (dropB y.live p ob) bo m c).hp p = zI := by rw [ey1]; exact hzI
      have htI1 : typeZ ((y.withVo (dropB y.live p ob) bo m c).hp.zones.getD zI ⟨0, 0, [], []⟩) p = tI := by rw [ey1]; exact htI
      rw [releaseH, if_neg (by show ¬ 0 < (x.live.getD i .zero).o; rw [hbi]; dsimp only; omega), hbi]
      show _ = keepH { x.hp with live := x.hp.live.eraseIdx i } cpu p
      rw [← ey1]
      unfold keepH
      rw [ezI, htI1, hps]
      rw [if_pos (by rw [List.length_append]; simp only [List.length_cons, List.length_nil]; omega)]
      show ({ ((y.withVo (dropB y.live p ob) bo m c).withZ zs).hp with lists := ls.map (·.l) } : Hp) = _
      rw [hzs, hls]
      rfl
    clear f A; intro c36 A f
    refine wpList_nil ?_
    refine x_tn ?_
    refine x_condF f rfl ?_
    refine wp_skip ?_
    refine x_tn ?_
    refine wp_seq ?_
    have HSr : ∀ wx : World, (fun (wx : World) => wx.heap[b18]? = some (.cells #[.slice (y.withVo (dropB y.live p ob) bo m c).zo (y.withVo (dropB y.live p ob) bo m c).zn (y.withVo (dropB y.live p ob) bo m c).zc, .slice (y.withVo (dropB y.live p ob) bo m c).mo (y.withVo (dropB y.live p ob) bo m c).mn (y.withVo (dropB y.live p ob) bo m c).mc, .int .i64 (y.withVo (dropB y.live p ob) bo m c).cpus, .slice (y.withVo (dropB y.live p ob) bo m c).lo (y.withVo (dropB y.live p ob) bo m c).ln (y.withVo (dropB y.live p ob) bo m c).lc, .slice (y.withVo (dropB y.live p ob) bo m c).vo (y.withVo (dropB y.live p ob) bo m c).vn (y.withVo (dropB y.live p ob) bo m c).vc] 28 (0, 0))) wx → wx.heap[b18]? = some (.cells #[.slice (y.withVo (dropB y.live p ob) bo m c).zo (y.withVo (dropB y.live p ob) bo m c).zn (y.withVo (dropB y.live p ob) bo m c).zc, .slice (y.withVo (dropB y.live p ob) bo m c).mo (y.withVo (dropB y.live p ob) bo m c).mn (y.withVo (dropB y.live p ob) bo m c).mc, .int .i64 (y.withVo (dropB y.live p ob) bo m c).cpus, .slice (y.withVo (dropB y.live p ob) bo m c).lo (y.withVo (dropB y.live p ob) bo m c).ln (y.withVo (dropB y.live p ob) bo m c).lc, .slice (y.withVo (dropB y.live p ob) bo m c).vo (y.withVo (dropB y.live p ob) bo m c).vn (y.withVo (dropB y.live p ob) bo m c).vc] 28 (0, 0)) := fun wx h => h
    have hAt := (HY6.below BW).at_
    have hN9 := hN1
    have hlw := B0.size
    have hbw9 := BW.size
    refine sx_held (fun (wx : World) => wx.heap[b18]? = some (.cells #[.slice (y.withVo (dropB y.live p ob) bo m c).zo (y.withVo (dropB y.live p ob) bo m c).zn (y.withVo (dropB y.live p ob) bo m c).zc, .slice (y.withVo (dropB y.live p ob) bo m c).mo (y.withVo (dropB y.live p ob) bo m c).mn (y.withVo (dropB y.live p ob) bo m c).mc, .int .i64 (y.withVo (dropB y.live p ob) bo m c).cpus, .slice (y.withVo (dropB y.live p ob) bo m c).lo (y.withVo (dropB y.live p ob) bo m c).ln (y.withVo (dropB y.live p ob) bo m c).lc, .slice (y.withVo (dropB y.live p ob) bo m c).vo (y.withVo (dropB y.live p ob) bo m c).vn (y.withVo (dropB y.live p ob) bo m c).vc] 28 (0, 0))) [5, 6, 7] (by kernel_rfl) (by kernel_rfl) (blind_then (blind_body)) (row_next rb18 ((Below.refl _ _).drew)) ?_
    generalize hWd : ({ W34 with drawn := W34.drawn + 1 } : World) = W50
    have hdr := drawn_b hWd
    clear hWd
    have hdz := hdr.size
    replace B0 := Below.next B0 hdr; replace hAt := hAt.below hdr; replace hN9 := hN9.below hdr; replace rb4 := row_next rb4 hdr; replace rb18 := row_next rb18 hdr
    refine h_do f rfl rfl rfl rfl (y_loadN (vs := [_, _, _, _, _]) rfl rfl (ag rfl) rfl (rowls HSr _ _ ⟨rfl, rfl, rfl, rfl, rfl, trivial⟩)) ?_; clear f A; intro A f
    refine h_do f rfl rfl rfl rfl (y_move rfl rfl) ?_; clear f A; intro A f
    refine h_do f rfl rfl rfl rfl (y_move rfl rfl) ?_; clear f A; intro A f
    refine h_do f rfl rfl rfl rfl (y_move rfl rfl) ?_; clear f A; intro A f
    refine h_do f rfl rfl rfl rfl (y_move rfl rfl) ?_; clear f A; intro A f
    have l26 := row_lt rb4
    refine h_call f rfl rfl rfl rfl (IsCall.mk' (cap := []) rfl rfl rfl) (pl rfl) (words_any _ _ _ _ _ hN9.len hN9.reach hN9.at_) ?_
    clear f A
    rintro _ W51 ⟨bo9, c9, rfl, ow9, hb52⟩
    have hz9 := hb52.size
    refine ⟨_, rfl, row_next rb18 hb52, ?_⟩
    intro A f
    have hr9 := hN9.reach
    replace B0 := Below.next B0 hb52; replace hAt := hAt.below hb52; replace hN9 := hN9.below hb52; replace rb4 := row_next rb4 hb52; replace rb18 := row_next rb18 hb52
    have hNw := nums_of_owns ow9 hr9
    have hlr6 := row_lt rb4
    have hbo9 : ∀ a, bo9 = some a → a.block ≠ b4 := fun a ha => by have := (owns_blk ow9 a ha).1; omega
    refine h_call f rfl rfl rfl rfl (IsCall.mk' (cap := []) rfl rfl rfl) (pl rfl) (setList_any _ (y.withVo (dropB y.live p ob) bo m c) ⟨cpu, (zI : Nat), tI, (ps ++ [p])⟩ bo9 _ c9 hAt hord1 (by show (y.withVo (dropB y.live p ob) bo m c).ln ≤ 100; omega) hNw) ?_
    clear f A
    rintro _ W53 ⟨ls, lo, ln, lc, rfl, hAt2, hls, hb54, hlo2, hmm2⟩
    refine ⟨_, rfl, row_next rb18 hb54, ?_⟩
    intro A f
    replace B0 := Below.next B0 hb54; replace hAt := hAt.below hb54; replace hN9 := hN9.below hb54; replace hNw := hNw.below hb54; replace rb4 := row_next rb4 hb54; replace rb18 := row_next rb18 hb54
    have awf : Away b4 ((y.withVo (dropB y.live p ob) bo m c).withL ls lo ln lc) := away_withL aw_b4 (fun _ a h => by have := hlo2 a h; omega) (fun l hl => by rcases hmm2 l hl with h | rfl; (exact .inl h); exact .inr hbo9)
    have awz : ∀ e9, ((y.withVo (dropB y.live p ob) bo m c).withL ls lo ln lc).zo = some e9 → e9.block ≠ b4 := fun e9 hc => by have h1 : (y.withVo (dropB y.live p ob) bo m c).zo = some ⟨gz, 0, none⟩ := HY6.ez; have h2 : (y.withVo (dropB y.live p ob) bo m c).zo = some e9 := hc; rw [h1] at h2; cases h2; dsimp only; omega
    refine h_store f rfl rfl rfl rfl rfl rfl rb4 (sz rfl) rfl (Nat.le_of_ble_eq_true rfl) rfl (fun _ h _ => But.row h rb18 (by omega)) ?_
    clear rb4; intro W55 hb56 rb4; dsimp only [setL, over, Value.cells] at rb4; replace B0 := Below.thenBut B0 hb56 (by omega); replace rb18 := But.row hb56 rb18 (by omega); replace hAt2 := at_butA hAt2 hb56 awf awz
    refine h_do f rfl rfl rfl rfl (y_assign rfl rfl) ?_; clear f A; intro A f
    refine h_nil ?_
    refine x_tn ?_
    refine wp_ret ?_
    refine x_retc1 f rfl rfl rfl (ag rfl) rb4 rfl ?_
    -- return 1: ¬c13@30 ¬c15@48 ¬c25@62 ¬c36@97
    refine ⟨⟨(y.withVo (dropB y.live p ob) bo m c).withL ls lo ln lc, rfl, hAt2, ?_⟩, B0⟩
    have ezI : zIdx (y.withVo (dropB y.live p ob) bo m c).hp p = zI := by rw [ey1]; exact hzI
    have htI1 : typeZ ((y.withVo (dropB y.live p ob) bo m c).hp.zones.getD zI ⟨0, 0, [], []⟩) p = tI := by rw [ey1]; exact htI
    rw [releaseH, if_neg (by show ¬ 0 < (x.live.getD i .zero).o; rw [hbi]; dsimp only; omega), hbi]
    show _ = keepH { x.hp with live := x.hp.live.eraseIdx i } cpu p
    rw [← ey1]
    unfold keepH
    rw [ezI, htI1, hps]
    rw [if_neg (by rw [List.length_append]; simp only [List.length_cons, List.length_nil]; omega)]
    show ({ (y.withVo (dropB y.live p ob) bo m c).hp with lists := ls.map (·.l) } : Hp) = _
    rw [hls]
  intro c9; exfalso; omega

end Go.Proofs.Ytbjlbmofdnkmiaa

/-
  OWN TEXT. Contract of the laws' own sameInts at two that hold the same.
-/
namespace Go.Proofs.Ytbjlbmofdnkmiaa
open Go Go.RowKit Go.Proofs.Ytbjlbmofdnkmiaa.Kit

set_option maxHeartbeats 400000 in
theorem same_eq (w : World) (ao bo : Option Addr) (n ca cb : Nat) (xs : List Int) (hn : xs.length = n) (hr : n * 8 ≤ 140737488351232) (ha : IntsAt w ao xs) (hb : IntsAt w bo xs) :
    Calls Try.prog 28 #[.slice ao n ca, .slice bo n cb] w fun e w' => e = .returned (.bool true) ∧ ∃ d, w' = w.drewN d := by
  go_enter Try.func28, Try.ntmps28
  go_wp2
  go_loopw [5] (fun i wr => ∃ k d : Nat, k ≤ n ∧ i = .int .i64 k ∧ wr = w.drewN d) (fun i _ => n - (intOf i).toNat)
  case atStart => exact ⟨0, 0, Nat.zero_le _, rfl, rfl⟩
  case round =>
    obtain ⟨k, d, hk, rfl, rfl⟩ := hrel
    by_cases hlt : k < n
    · obtain ⟨b1, o1, rfl, c1⟩ := ha k (by omega)
      obtain ⟨b2, o2, rfl, c2⟩ := hb k (by omega)
      clear ha hb
      go_wp2
      go_quiet (fail)
      go_wp2
      go_roundw
      case rel => exact ⟨k + 1, _, by omega, by go_num, rfl⟩
      case measure => simp [intOf]; omega
    · go_wp2
      go_ret
      exact ⟨rfl, d, rfl⟩

end Go.Proofs.Ytbjlbmofdnkmiaa

/-
  OWN TEXT. Contracts of the laws' own: sameBlocks, sameZone at two that hold the same.
-/
namespace Go.Proofs.Ytbjlbmofdnkmiaa
open Go Go.RowKit Go.Proofs.Ytbjlbmofdnkmiaa.Kit

set_option maxHeartbeats 1000000 in
theorem sameBlocks_eq (w : World) (ao bo : Option Addr) (n ca cb : Nat) (l : List Bk) (ha : Blks w ao n l) (hb : Blks w bo n l) :
    Calls Try.prog 29 #[.slice ao n ca, .slice bo n cb] w fun e w' => e = .returned (.bool true) ∧ ∃ d, w' = w.drewN d := by
  have hn := ha.len
  have hr := ha.reach
  have xa := ha.at_
  have xb := hb.at_
  clear ha hb
  go_enter Try.func29, Try.ntmps29
  go_wp2
  go_loopw [5] (fun i wr => ∃ k d : Nat, k ≤ n ∧ i = .int .i64 k ∧ wr = w.drewN d) (fun i _ => n - (intOf i).toNat)
  case atStart => exact ⟨0, 0, Nat.zero_le _, rfl, rfl⟩
  case round =>
    obtain ⟨k, d, hk, rfl, rfl⟩ := hrel
    by_cases hlt : k < n
    · obtain ⟨b1, o1, x, y, u, rfl, c1, c2, c3, hX⟩ := xa.at k (by omega)
      obtain ⟨b2, o2, x', y', u', rfl, d1, d2, d3, hX'⟩ := xb.at k (by omega)
      have hxy : (⟨x, y, u⟩ : Bk) = ⟨x', y', u'⟩ := hX.out.symm.trans hX'.out
      cases hxy
      clear xa xb hX hX'
      go_wp2
      go_quiet (fail)
      go_wp2
      go_roundw
      case rel => exact ⟨k + 1, _, by omega, by go_num, rfl⟩
      case measure => simp [intOf]; omega
    · go_wp2
      go_ret
      exact ⟨rfl, d, rfl⟩

set_option maxHeartbeats 1000000 in
theorem sameZone_eq (w : World) (f t : Int) (f1 f2 t1 t2 : Option Addr) (fn fc1 fc2 tn tc1 tc2 : Nat) (z : Zn) (h1 : ZnAt w f1 fn t1 tn z) (h2 : ZnAt w f2 fn t2 tn z) :
    Calls Try.prog 30 #[.agg #[.int .i64 f, .int .i64 t, .slice f1 fn fc1, .slice t1 tn tc1], .agg #[.int .i64 f, .int .i64 t, .slice f2 fn fc2, .slice t2 tn tc2]] w fun e w' => e = .returned (.bool true) ∧ Below w.heap.size w w' := by
  have hb1 : Below w.heap.size w ((w.alloc (.cells #[.int .i64 f, .int .i64 t, .slice f1 fn fc1, .slice t1 tn tc1] 44)).alloc (.cells #[.int .i64 f, .int .i64 t, .slice f2 fn fc2, .slice t2 tn tc2] 44)) := ((Below.refl _ _).alloc (Nat.le_refl _) _).alloc (by simp) _
  have g1 := h1.below hb1
  have g2 := h2.below hb1
  clear h1 h2
  go_enter Try.func30, Try.ntmps30
  go_wp2_with fail
  go_at_call 29
  refine (sameBlocks_eq _ f1 f2 fn fc1 fc2 z.free g1.free g2.free).mono ?_
  rintro e w1 ⟨rfl, d, rfl⟩
  go_wp2_with fail
  go_at_call 28
  refine (same_eq _ t1 t2 tn tc1 tc2 z.types g1.types.len g1.types.reach (g1.types.at_.below (below_drawn d)) (g2.types.at_.below (below_drawn d))).mono ?_
  rintro e w2 ⟨rfl, d2, rfl⟩
  go_wp2
  go_ret
  exact ⟨rfl, hb1.trans (below_drewN (Below.refl _ _) _)⟩

end Go.Proofs.Ytbjlbmofdnkmiaa
