/-
  OWN TEXTS, bundled: LKeep, LRel, ManyH.
-/
import Derived.Test.YtbjlbmofdnkmiaaPagesFreesPart16
import Derived.Test.YtbjlbmofdnkmiaaPagesFreesPart7

/-
  OWN TEXT. Contracts of the code: pages.keep (written by sxkeep.py).
-/
namespace Go.Proofs.Ytbjlbmofdnkmiaa
open Go Go.RowKit Go.Proofs.Ytbjlbmofdnkmiaa.Kit

theorem nums_nil {w : World} {n : Nat} {xs : List Int} (h : Nums w none n xs) : n = 0 := by
  by_cases h0 : 0 < xs.length
  · obtain ⟨b, o, e, _⟩ := h.at_ 0 h0
    cases e
  · have := h.len; omega
theorem nums_take {w : World} {ao : Option Addr} {n k : Nat} {xs : List Int} (h : Nums w ao n xs) (hk : k ≤ n) : Nums w ao k (xs.take k) := by
  have hl := h.len
  have hr := h.reach
  refine ⟨by rw [List.length_take]; omega, by omega, fun i hi => ?_⟩
  rw [List.length_take] at hi
  obtain ⟨b, o, e, hc⟩ := h.at_ i (by omega)
  refine ⟨b, o, e, ?_⟩
  rw [hc]
  simp only [List.getD_eq_getElem?_getD]
  rw [List.getElem?_take_of_lt (by omega)]
theorem bs_int1 (a : Int) (w : World) : (Instr.buildSlice 24 1 #[(0, .int .i64 a)]).run Try.prog w = .ok (.slice (some ⟨w.heap.size, 0, none⟩) 1 1) (w.alloc (.cells #[.int .i64 a] 3)) := by
  simp [go_sem]
theorem lss_mem {H : Hp} (h : LssOk H) {l : Ls} (hl : l ∈ H.lists) : LsOk H l := by
  obtain ⟨i, hi, rfl⟩ := List.getElem_of_mem hl
  have := h.ok i hi
  rwa [List.getD_eq_getElem?_getD, List.getElem?_eq_getElem hi] at this
theorem AwayL.toF {b : Nat} {y : Hx} (h : AwayL b y) : AwayF b y := ⟨h.f, h.t⟩
theorem awayF_old {w : World} {b : Nat} {y : Hx} (h : y.At w) (hb : w.heap.size ≤ b) : AwayF b y := (awayL_old h hb).toF
theorem awayL_withZ {b : Nat} {y : Hx} {zs : List Zc} (h : AwayL b y) (f : AwayF b (y.withZ zs)) (h0 : 0 < y.zs.length) : AwayL b (y.withZ zs) :=
  ⟨fun _ => h.z h0, f.f, f.t, h.m, h.p, h.v⟩
theorem awayF_away {b : Nat} {y : Hx} {zs : List Zc} (h : Away b y) (f : AwayF b (y.withZ zs)) : Away b (y.withZ zs) := ⟨f.f, f.t, h.m, h.l, h.p, h.v⟩
theorem away_withL {b : Nat} {y : Hx} {ls : List Lc} {lo : Option Addr} {ln lc : Nat} (h : Away b y) (hl : 0 < ls.length → ∀ a, lo = some a → a.block ≠ b) (hm : ∀ l ∈ ls, l ∈ y.ls ∨ ∀ a, l.po = some a → a.block ≠ b) : Away b (y.withL ls lo ln lc) :=
  ⟨h.f, h.t, h.m, hl, fun l hl' h0 => (hm l hl').elim (fun g => h.p l g h0) (fun g => g), h.v⟩

set_option maxRecDepth 10000 in
set_option maxHeartbeats 4000000 in
theorem pKeep_f (w : World) (B gz gl hbk : Nat) (y : Hx) (cpu p : Int) (i zI : Nat) (tI : Int) (rhbk : w.heap[hbk]? = some (.cells #[.slice y.zo y.zn y.zc, .slice y.mo y.mn y.mc, .int .i64 y.cpus, .slice y.lo y.ln y.lc, .slice y.vo y.vn y.vc] 28 (0, 0))) (HY : HZ w B gz y) (ol : w.ownsRow B 57 4 (.slice y.lo y.ln y.lc) y.ln (c4 (y.ls.map Lc.q))) (el : ∀ a, y.lo = some a → a.block = gl) (al : AwayL gl y) (ah : AwayL hbk y)
    (_hhz : hbk ≠ gz) (hhl : hbk ≠ gl) (_hzl : gz ≠ gl) (hgw : gl < w.heap.size) (_hzw : gz < w.heap.size) (_hcap : ∀ l ∈ y.ls, l.pc = l.pn) (hM : HMid y.hp) (hp : 0 ≤ p ∧ p < 256) (hB : B ≤ w.heap.size) (hzI : zIdx y.hp p = zI) (htI : typeZ (y.hp.zones.getD zI ⟨0, 0, [], []⟩) p = tI) (hA : AtL y.hp.lists ⟨cpu, (zI : Nat), tI, []⟩ i false) :
    Calls Try.prog 71 #[.pointer (some ⟨hbk, 0, none⟩), .int .i64 cpu, .int .i64 p] w fun e w' => e = .returned (.int .i64 0) ∧ ∃ y2 : Hx, w'.heap[hbk]? = some (.cells #[.slice y2.zo y2.zn y2.zc, .slice y2.mo y2.mn y2.mc, .int .i64 y2.cpus, .slice y2.lo y2.ln y2.lc, .slice y2.vo y2.vn y2.vc] 28 (0, 0)) ∧ y2.At w' ∧ y2.hp = keepH y.hp cpu p ∧ Ex (fun k => k = gz ∨ k = gl ∨ k = hbk) w w' ∧ (∀ b, b < w.heap.size → b ≠ gl → Away b y → Away b y2) ∧ y2.zo = y.zo := by
  have hlw := row_lt rhbk
  have hll : y.hp.lists.length = y.ln := by show (y.ls.map _).length = _; rw [List.length_map]; exact HY.at_.lists.len
  have hfew := lists_few hM.ls hM.cpus
  have hzn : y.zn = 2 := by have e : y.hp.zones.length = y.zs.length := (by show (y.zs.map _).length = _; rw [List.length_map]); have := hM.zs.n; have := HY.at_.zones.len; omega
  have hzlt : zI < 2 := by rw [← hzI]; exact zIdx_lt _ _
  have hord : RiseL y.ls := fun k h0 h1 => by have := hM.ls.ord k h0 (by rw [hll]; have := HY.at_.lists.len; omega); rw [show y.hp.lists = y.ls.map (·.l) from rfl, getD_l, getD_l] at this; exact this
  have hrp : RiseP y.hp.lists := riseP_of hord
  have hil := hA.1
  have B0 := Below.refl w.heap.size w
  refine sx_enter (args := [_, _, _]) 76 Try.func71 rfl rfl rfl ?_
  intro A f
  refine wp_seq ?_
  refine sx_list ?_
  refine l_do f rfl rfl rfl (y_assign rfl rfl) ?_; clear f A; intro A f
  refine wpList_nil ?_
  refine x_tn ?_
  refine wp_seq ?_
  refine sx_list ?_
  refine l_do f rfl rfl rfl (y_move rfl rfl) ?_; clear f A; intro A f
  refine l_do f rfl rfl rfl (y_nil rfl rfl) ?_; clear f A; intro A f
  refine l_do f rfl rfl rfl (y_loadN (vs := [_, _, _, _, _]) rfl rfl (ag rfl) rfl (rowls (rowq rhbk) _ _ ⟨rfl, rfl, rfl, rfl, rfl, trivial⟩)) ?_; clear f A; intro A f
  refine l_do f rfl rfl rfl (y_move rfl rfl) ?_; clear f A; intro A f
  refine l_call f rfl rfl rfl (IsCall.mk' (cap := []) rfl rfl rfl) (pl rfl) (by have e := pZoneOf_c _ y p (HY.at_.below B0) hzn; rw [hzI] at e; exact e) ?_; clear f A; rintro _ W2 ⟨rfl, hb1⟩; refine ⟨_, rfl, ?_⟩; intro A f; replace B0 := Below.next B0 hb1; replace rhbk := row_next rhbk hb1
  refine l_do f rfl rfl rfl (y_assign rfl rfl) ?_; clear f A; intro A f
  refine wpList_nil ?_
  refine x_tn ?_
  refine wp_seq ?_
  refine sx_list ?_
  refine l_do f rfl rfl rfl (y_move rfl rfl) ?_; clear f A; intro A f
  refine l_do f rfl rfl rfl (y_nil rfl rfl) ?_; clear f A; intro A f
  refine l_do f rfl rfl rfl (y_field rfl rfl (fo rfl)) ?_; clear f A; intro A f
  refine l_do f rfl rfl rfl (y_load1 rfl rfl (ag rfl) (rowl (rowq rhbk) rfl)) ?_; clear f A; intro A f
  refine l_do f rfl rfl rfl (y_move rfl rfl) ?_; clear f A; intro A f
  obtain ⟨gq, oq, zq, foq, fnq, fcq, toq, tnq, tcq, haq, c0q, c1q, c2q, c3q, hatq, hXq⟩ := HY.at_.zones.at (zI) (by omega)
  replace c0q := St.of c0q; replace c1q := St.of c1q; replace c2q := St.of c2q; replace c3q := St.of c3q
  have hqe : y.hp.zones.getD zI ⟨0, 0, [], []⟩ = zq := by rw [hp_zone, hXq.out]
  have hzin := zone_in hM.zs hp.1 hp.2
  rw [hzI, hqe] at hzin
  have htq : typeZ zq p = tI := by rw [← hqe]; exact htI
  refine l_do f rfl rfl rfl (y_index rfl rfl (by first | rfl | assumption) rfl (es rfl) (by omega)) ?_; clear f A; intro A f
  refine l_do f rfl rfl rfl (y_loadN (vs := [_, _, _, _]) rfl rfl (ag rfl) rfl ⟨(by first | assumption | exact St.q c0q B0 | exact St.q c1q B0 | exact St.q c2q B0 | exact St.q c3q B0), (by first | assumption | exact St.q c0q B0 | exact St.q c1q B0 | exact St.q c2q B0 | exact St.q c3q B0), (by first | assumption | exact St.q c0q B0 | exact St.q c1q B0 | exact St.q c2q B0 | exact St.q c3q B0), (by first | assumption | exact St.q c0q B0 | exact St.q c1q B0 | exact St.q c2q B0 | exact St.q c3q B0), trivial⟩) ?_; clear f A; intro A f
  refine l_do f rfl rfl rfl (y_move rfl rfl) ?_; clear f A; intro A f
  refine l_call f rfl rfl rfl (IsCall.mk' (cap := []) rfl rfl rfl) (pl rfl) (by have e := zTypeAt_ok _ foq fnq fcq toq tnq tcq zq p (hatq.below B0) hzin.1 hzin.2; rw [htq] at e; exact e) ?_; clear f A; rintro _ W4 ⟨rfl, hb3⟩; refine ⟨_, rfl, ?_⟩; intro A f; replace B0 := Below.next B0 hb3; replace rhbk := row_next rhbk hb3
  refine l_do f rfl rfl rfl (y_move rfl rfl) ?_; clear f A; intro A f
  refine l_do f rfl rfl rfl (y_ext rfl rfl rfl) ?_; clear f A; intro A f
  refine l_do f rfl rfl rfl (y_ext rfl rfl rfl) ?_; clear f A; intro A f
  refine l_do f rfl rfl rfl (y_assign rfl rfl) ?_; clear f A; intro A f
  refine l_do f rfl rfl rfl (y_assign rfl rfl) ?_; clear f A; intro A f
  refine wpList_nil ?_
  refine x_tn ?_
  refine wp_seq ?_
  refine wp_seq ?_
  refine sx_list ?_
  refine l_do f rfl rfl rfl (y_move rfl rfl) ?_; clear f A; intro A f
  refine l_if _ f rfl rfl rfl (y_neq rfl rfl rfl) ?_ ?_
  · intro c5; exfalso; omega
  · clear f A; intro c5 A f
    refine wpList_nil ?_
    refine x_tn ?_
    refine x_condF f rfl ?_
    refine wp_skip ?_
    refine x_tn ?_
    refine wp_seq ?_
    refine sx_list ?_
    refine l_do f rfl rfl rfl (y_move rfl rfl) ?_; clear f A; intro A f
    refine l_do f rfl rfl rfl (y_move rfl rfl) ?_; clear f A; intro A f
    refine l_do f rfl rfl rfl (y_move rfl rfl) ?_; clear f A; intro A f
    refine l_do f rfl rfl rfl (y_build #[.int .i64 cpu, .int .i64 (zI : Nat), .int .i64 tI, .slice none 0 0] rfl rfl (by kernel_rfl)) ?_; clear f A; intro A f
    refine l_as (z := .agg #[.int .i64 0, .int .i64 0, .int .i64 0, .slice none 0 0]) f rfl rfl rfl rfl (by kernel_rfl) rfl rfl (fun _ => rfl) (fun _ => rfl) rfl (by intro u hu; simp [Value.cells] at hu; rcases hu with rfl | rfl | rfl | rfl <;> rfl) ?_; clear f A; intro b6 W7 eb6 hb8 rb6 A f
    dsimp only [Value.cells] at rb6
    have hpb6 := hb8
    have o_hbk_b6 : hbk < b6 := by have := row_lt rhbk; omega
    have z_B0_b6 := B0.size; rw [eb6] at z_B0_b6
    replace B0 := Below.next B0 hb8; replace rhbk := row_next rhbk hb8
    refine wpList_nil ?_
    refine x_tn ?_
    refine wp_seq ?_
    refine sx_list ?_
    refine l_do f rfl rfl rfl (y_assign rfl rfl) ?_; clear f A; intro A f
    refine wpList_nil ?_
    refine x_tn ?_
    refine wp_seq ?_
    refine wp_seq ?_
    refine sx_quiet (by kernel_rfl) (by kernel_rfl) ?_
    refine q_do f rfl rfl rfl (y_move rfl rfl) ?_; clear f A; intro A f
    refine q_do f rfl rfl rfl (y_nil rfl rfl) ?_; clear f A; intro A f
    refine q_do f rfl rfl rfl (y_loadN (vs := [_, _, _, _, _]) rfl rfl (ag rfl) rfl (rowls (rowq rhbk) _ _ ⟨rfl, rfl, rfl, rfl, rfl, trivial⟩)) ?_; clear f A; intro A f
    refine q_do f rfl rfl rfl (y_loadN (vs := [_, _, _, _]) rfl rfl (ag rfl) rfl (rowls (rowq rb6) _ _ ⟨rfl, rfl, rfl, rfl, trivial⟩)) ?_; clear f A; intro A f
    refine q_call f rfl rfl rfl (IsCall.mk' (cap := []) rfl rfl rfl) (pl rfl) (fun wx hx => (pListAt_c wx y ⟨cpu, (zI : Nat), tI, []⟩ (.slice none 0 0) (HY.at_.below (Below.next B0 hx)) hord hA).mono (fun e w1 h1 => ⟨h1.1, Below.next hx h1.2⟩)) ?_; clear f A; intro A f
    refine q_do f rfl rfl rfl (y_move rfl rfl) ?_; clear f A; intro A f
    refine q_do f rfl rfl rfl (y_ext rfl rfl rfl) ?_; clear f A; intro A f
    refine q_do f rfl rfl rfl (y_ext rfl rfl rfl) ?_; clear f A; intro A f
    refine q_do f rfl rfl rfl (y_assign rfl rfl) ?_; clear f A; intro A f
    skip
    refine q_do f rfl rfl rfl (y_assign rfl rfl) ?_; clear f A; intro A f
    refine wpQuiet_nil ?_; intro W10 hb9; replace B0 := Below.next B0 hb9; replace rhbk := row_next rhbk hb9; replace rb6 := row_next rb6 hb9
    refine x_tn ?_
    refine wp_seq ?_
    refine sx_list ?_
    refine l_do f rfl rfl rfl (y_move rfl rfl) ?_; clear f A; intro A f
    refine wpList_nil ?_
    refine x_tn ?_
    refine x_condF f rfl ?_
    refine wp_skip ?_
    refine x_tn ?_
    refine wp_seq ?_
    refine sx_list ?_
    refine l_do f rfl rfl rfl (y_move rfl rfl) ?_; clear f A; intro A f
    refine l_do f rfl rfl rfl (y_move rfl rfl) ?_; clear f A; intro A f
    obtain ⟨gb, hgb⟩ : ∃ g, g = W10.heap.size := ⟨_, rfl⟩
    refine l_opR (R := fun v W => v = .slice (some ⟨gb, 0, none⟩) 1 1 ∧ Below W10.heap.size W10 W ∧ W.heap[gb]? = some (.cells #[.int .i64 p] 3 (0, 0))) f rfl rfl rfl ⟨_, _, bs_exec f rfl rfl (bs_int1 _ _), by rw [hgb], (Below.refl _ _).alloc (Nat.le_refl _) _, by rw [hgb]; show (Array.push _ _)[_]? = _; rw [Array.getElem?_push, if_pos rfl]⟩ ?_
    clear f A
    rintro _ W11 ⟨rfl, hb12, rgb⟩ A f
    replace B0 := Below.next B0 hb12; replace rhbk := row_next rhbk hb12; replace rb6 := row_next rb6 hb12
    obtain ⟨s9, hs9⟩ : ∃ n, n = W11.heap.size := ⟨_, rfl⟩
    have hsw := B0.size
    have l9_hbk := row_lt rhbk
    have l9_b6 := row_lt rb6
    refine l_opR (R := fun v W => ∃ gp cp, v = .slice (some ⟨gp, 0, none⟩) (0 + 1) cp ∧ W.ownsRow s9 3 1 (.slice (some ⟨gp, 0, none⟩) (0 + 1) cp) (0 + 1) (vals ([] ++ [p])) ∧ Below W11.heap.size W11 W ∧ s9 ≤ gp) f rfl rfl rfl (by obtain ⟨g1, c1, W1, h1, h2, h3, h4⟩ := app1_run W11 _ none 0 [] p gb (Nums.nil _) (by omega) rgb (fun _ => rfl); rw [hs9]; exact ⟨_, W1, append_exec f rfl rfl rfl h1, g1, c1, rfl, h2, h3, h4⟩) ?_
    clear f A
    rintro _ W13 ⟨gp, cp, rfl, own9, hb14, hgp⟩ A f
    replace B0 := Below.next B0 hb14; replace rhbk := row_next rhbk hb14; replace rb6 := row_next rb6 hb14
    have hgw9 : gp < W13.heap.size := (owns_blk own9 _ rfl).2.1
    have hc9 := owns_cap own9
    refine l_do f rfl rfl rfl (y_assign rfl rfl) ?_; clear f A; intro A f
    refine wpList_nil ?_
    refine x_tn ?_
    refine wp_seq ?_
    refine wp_seq ?_
    refine sx_list ?_
    refine l_do f rfl rfl rfl (y_move rfl rfl) ?_; clear f A; intro A f
    refine l_do f rfl rfl rfl (y_len rfl rfl (sl rfl)) ?_; clear f A; intro A f
    refine l_if _ f rfl rfl rfl (y_gtr rfl rfl rfl) ?_ ?_
    · intro c15; exfalso; omega
    · clear f A; intro c15 A f
      refine wpList_nil ?_
      refine x_tn ?_
      refine x_condF f rfl ?_
      refine wp_skip ?_
      refine x_tn ?_
      refine wp_seq ?_
      refine sx_list ?_
      refine l_do f rfl rfl rfl (y_move rfl rfl) ?_; clear f A; intro A f
      refine l_do f rfl rfl rfl (y_loadN (vs := [_, _, _, _]) rfl rfl (ag rfl) rfl (rowls (rowq rb6) _ _ ⟨rfl, rfl, rfl, rfl, trivial⟩)) ?_; clear f A; intro A f
      refine l_do f rfl rfl rfl (y_move rfl rfl) ?_; clear f A; intro A f
      have hlz : 0 < y.zs.length := by have := HY.at_.zones.len; omega
      have hAt := HY.at_.below B0
      replace ol := owns_below ol B0 (Nat.le_refl _)
      have hex := Ex.of_below (P := fun k => k = gz ∨ k = gl ∨ k = hbk) B0
      have hsz := B0.size
      have al2 := al
      have ah2 := ah
      have hN5 : Nums W13 (some ⟨gp, 0, none⟩) (0 + 1) ([] ++ [p]) := nums_of_owns own9 (by omega)
      refine l_call f rfl rfl rfl (IsCall.mk' (cap := []) rfl rfl rfl) (pl rfl) (pSetList_f _ B gl hbk y ⟨cpu, (zI : Nat), tI, ([] ++ [p])⟩ (.slice none 0 0) (some ⟨gp, 0, none⟩) (0 + 1) cp i rhbk ol el hAt al2 ah2 hhl (by omega) hord hN5 (fun _ a ha => by cases ha; dsimp only; omega) (by omega) (by show y.ln ≤ 300; omega) hA) ?_
      clear f A
      rintro _ W16 ⟨rfl, ls2, lo2, ln2, lc2, rh2, hAt2, hls2, hbu, hlo2, hmem2⟩
      refine ⟨_, rfl, ?_⟩
      intro A f
      refine wpList_nil ?_
      refine x_tn ?_
      refine wp_seq ?_
      refine sx_list ?_
      refine l_do f rfl rfl rfl (y_assign rfl rfl) ?_; clear f A; intro A f
      refine wpList_nil ?_
      refine x_tn ?_
      refine wp_ret ?_
      refine x_ret1 f rfl rfl ?_
      -- return 0: ¬c5@33 ¬c15@62
      have hL : lsPages y.hp.lists ⟨cpu, (zI : Nat), tI, []⟩ = [] := by rw [lsPages_at hrp hA]; rfl
      refine ⟨rfl, y.withL ls2 lo2 ln2 lc2, rh2, hAt2, ?_, hex.trans (Ex.of_bu2 hbu (.inr (.inr rfl)) (.inr (.inl rfl))), fun b hb hbl ha => ?_, rfl⟩
      · unfold keepH
        rw [hzI, htI, hL, if_neg (by rw [List.length_append]; simp only [List.length_cons, List.length_nil]; omega)]
        show ({ y.hp with lists := ls2.map (·.l) } : Hp) = _
        rw [hls2]
      · exact away_withL ha (fun _ a h => by rcases hlo2 a h with e | e <;> omega) (fun l hl => by rcases hmem2 l hl with h | rfl; (exact .inl h); exact .inr (fun a h => by cases h; dsimp only; omega))

set_option maxRecDepth 10000 in
set_option maxHeartbeats 4000000 in
theorem pKeep_t (w : World) (B gz gl hbk : Nat) (y : Hx) (cpu p : Int) (i zI : Nat) (tI : Int) (rhbk : w.heap[hbk]? = some (.cells #[.slice y.zo y.zn y.zc, .slice y.mo y.mn y.mc, .int .i64 y.cpus, .slice y.lo y.ln y.lc, .slice y.vo y.vn y.vc] 28 (0, 0))) (HY : HZ w B gz y) (ol : w.ownsRow B 57 4 (.slice y.lo y.ln y.lc) y.ln (c4 (y.ls.map Lc.q))) (el : ∀ a, y.lo = some a → a.block = gl) (al : AwayL gl y) (ah : AwayL hbk y)
    (hhz : hbk ≠ gz) (hhl : hbk ≠ gl) (hzl : gz ≠ gl) (hgw : gl < w.heap.size) (hzw : gz < w.heap.size) (hcap : ∀ l ∈ y.ls, l.pc = l.pn) (hM : HMid y.hp) (hp : 0 ≤ p ∧ p < 256) (hB : B ≤ w.heap.size) (hzI : zIdx y.hp p = zI) (htI : typeZ (y.hp.zones.getD zI ⟨0, 0, [], []⟩) p = tI) (hA : AtL y.hp.lists ⟨cpu, (zI : Nat), tI, []⟩ i true) :
    Calls Try.prog 71 #[.pointer (some ⟨hbk, 0, none⟩), .int .i64 cpu, .int .i64 p] w fun e w' => e = .returned (.int .i64 0) ∧ ∃ y2 : Hx, w'.heap[hbk]? = some (.cells #[.slice y2.zo y2.zn y2.zc, .slice y2.mo y2.mn y2.mc, .int .i64 y2.cpus, .slice y2.lo y2.ln y2.lc, .slice y2.vo y2.vn y2.vc] 28 (0, 0)) ∧ y2.At w' ∧ y2.hp = keepH y.hp cpu p ∧ Ex (fun k => k = gz ∨ k = gl ∨ k = hbk) w w' ∧ (∀ b, b < w.heap.size → b ≠ gl → Away b y → Away b y2) ∧ y2.zo = y.zo := by
  have hlw := row_lt rhbk
  have hll : y.hp.lists.length = y.ln := by show (y.ls.map _).length = _; rw [List.length_map]; exact HY.at_.lists.len
  have hfew := lists_few hM.ls hM.cpus
  have hzn : y.zn = 2 := by have e : y.hp.zones.length = y.zs.length := (by show (y.zs.map _).length = _; rw [List.length_map]); have := hM.zs.n; have := HY.at_.zones.len; omega
  have hzlt : zI < 2 := by rw [← hzI]; exact zIdx_lt _ _
  have hord : RiseL y.ls := fun k h0 h1 => by have := hM.ls.ord k h0 (by rw [hll]; have := HY.at_.lists.len; omega); rw [show y.hp.lists = y.ls.map (·.l) from rfl, getD_l, getD_l] at this; exact this
  have hrp : RiseP y.hp.lists := riseP_of hord
  have hib : i < y.ln := by have := (hA.2.2.2.1 rfl).1; omega
  have B0 := Below.refl w.heap.size w
  refine sx_enter (args := [_, _, _]) 76 Try.func71 rfl rfl rfl ?_
  intro A f
  refine wp_seq ?_
  refine sx_list ?_
  refine l_do f rfl rfl rfl (y_assign rfl rfl) ?_; clear f A; intro A f
  refine wpList_nil ?_
  refine x_tn ?_
  refine wp_seq ?_
  refine sx_list ?_
  refine l_do f rfl rfl rfl (y_move rfl rfl) ?_; clear f A; intro A f
  refine l_do f rfl rfl rfl (y_nil rfl rfl) ?_; clear f A; intro A f
  refine l_do f rfl rfl rfl (y_loadN (vs := [_, _, _, _, _]) rfl rfl (ag rfl) rfl (rowls (rowq rhbk) _ _ ⟨rfl, rfl, rfl, rfl, rfl, trivial⟩)) ?_; clear f A; intro A f
  refine l_do f rfl rfl rfl (y_move rfl rfl) ?_; clear f A; intro A f
  refine l_call f rfl rfl rfl (IsCall.mk' (cap := []) rfl rfl rfl) (pl rfl) (by have e := pZoneOf_c _ y p (HY.at_.below B0) hzn; rw [hzI] at e; exact e) ?_; clear f A; rintro _ W2 ⟨rfl, hb1⟩; refine ⟨_, rfl, ?_⟩; intro A f; replace B0 := Below.next B0 hb1; replace rhbk := row_next rhbk hb1
  refine l_do f rfl rfl rfl (y_assign rfl rfl) ?_; clear f A; intro A f
  refine wpList_nil ?_
  refine x_tn ?_
  refine wp_seq ?_
  refine sx_list ?_
  refine l_do f rfl rfl rfl (y_move rfl rfl) ?_; clear f A; intro A f
  refine l_do f rfl rfl rfl (y_nil rfl rfl) ?_; clear f A; intro A f
  refine l_do f rfl rfl rfl (y_field rfl rfl (fo rfl)) ?_; clear f A; intro A f
  refine l_do f rfl rfl rfl (y_load1 rfl rfl (ag rfl) (rowl (rowq rhbk) rfl)) ?_; clear f A; intro A f
  refine l_do f rfl rfl rfl (y_move rfl rfl) ?_; clear f A; intro A f
  obtain ⟨gq, oq, zq, foq, fnq, fcq, toq, tnq, tcq, haq, c0q, c1q, c2q, c3q, hatq, hXq⟩ := HY.at_.zones.at (zI) (by omega)
  replace c0q := St.of c0q; replace c1q := St.of c1q; replace c2q := St.of c2q; replace c3q := St.of c3q
  have hqe : y.hp.zones.getD zI ⟨0, 0, [], []⟩ = zq := by rw [hp_zone, hXq.out]
  have hzin := zone_in hM.zs hp.1 hp.2
  rw [hzI, hqe] at hzin
  have htq : typeZ zq p = tI := by rw [← hqe]; exact htI
  refine l_do f rfl rfl rfl (y_index rfl rfl (by first | rfl | assumption) rfl (es rfl) (by omega)) ?_; clear f A; intro A f
  refine l_do f rfl rfl rfl (y_loadN (vs := [_, _, _, _]) rfl rfl (ag rfl) rfl ⟨(by first | assumption | exact St.q c0q B0 | exact St.q c1q B0 | exact St.q c2q B0 | exact St.q c3q B0), (by first | assumption | exact St.q c0q B0 | exact St.q c1q B0 | exact St.q c2q B0 | exact St.q c3q B0), (by first | assumption | exact St.q c0q B0 | exact St.q c1q B0 | exact St.q c2q B0 | exact St.q c3q B0), (by first | assumption | exact St.q c0q B0 | exact St.q c1q B0 | exact St.q c2q B0 | exact St.q c3q B0), trivial⟩) ?_; clear f A; intro A f
  refine l_do f rfl rfl rfl (y_move rfl rfl) ?_; clear f A; intro A f
  refine l_call f rfl rfl rfl (IsCall.mk' (cap := []) rfl rfl rfl) (pl rfl) (by have e := zTypeAt_ok _ foq fnq fcq toq tnq tcq zq p (hatq.below B0) hzin.1 hzin.2; rw [htq] at e; exact e) ?_; clear f A; rintro _ W4 ⟨rfl, hb3⟩; refine ⟨_, rfl, ?_⟩; intro A f; replace B0 := Below.next B0 hb3; replace rhbk := row_next rhbk hb3
  refine l_do f rfl rfl rfl (y_move rfl rfl) ?_; clear f A; intro A f
  refine l_do f rfl rfl rfl (y_ext rfl rfl rfl) ?_; clear f A; intro A f
  refine l_do f rfl rfl rfl (y_ext rfl rfl rfl) ?_; clear f A; intro A f
  refine l_do f rfl rfl rfl (y_assign rfl rfl) ?_; clear f A; intro A f
  refine l_do f rfl rfl rfl (y_assign rfl rfl) ?_; clear f A; intro A f
  refine wpList_nil ?_
  refine x_tn ?_
  refine wp_seq ?_
  refine wp_seq ?_
  refine sx_list ?_
  refine l_do f rfl rfl rfl (y_move rfl rfl) ?_; clear f A; intro A f
  refine l_if _ f rfl rfl rfl (y_neq rfl rfl rfl) ?_ ?_
  · intro c5; exfalso; omega
  · clear f A; intro c5 A f
    refine wpList_nil ?_
    refine x_tn ?_
    refine x_condF f rfl ?_
    refine wp_skip ?_
    refine x_tn ?_
    refine wp_seq ?_
    refine sx_list ?_
    refine l_do f rfl rfl rfl (y_move rfl rfl) ?_; clear f A; intro A f
    refine l_do f rfl rfl rfl (y_move rfl rfl) ?_; clear f A; intro A f
    refine l_do f rfl rfl rfl (y_move rfl rfl) ?_; clear f A; intro A f
    refine l_do f rfl rfl rfl (y_build #[.int .i64 cpu, .int .i64 (zI : Nat), .int .i64 tI, .slice none 0 0] rfl rfl (by kernel_rfl)) ?_; clear f A; intro A f
    refine l_as (z := .agg #[.int .i64 0, .int .i64 0, .int .i64 0, .slice none 0 0]) f rfl rfl rfl rfl (by kernel_rfl) rfl rfl (fun _ => rfl) (fun _ => rfl) rfl (by intro u hu; simp [Value.cells] at hu; rcases hu with rfl | rfl | rfl | rfl <;> rfl) ?_; clear f A; intro b6 W7 eb6 hb8 rb6 A f
    dsimp only [Value.cells] at rb6
    have hpb6 := hb8
    have o_hbk_b6 : hbk < b6 := by have := row_lt rhbk; omega
    have z_B0_b6 := B0.size; rw [eb6] at z_B0_b6
    replace B0 := Below.next B0 hb8; replace rhbk := row_next rhbk hb8
    refine wpList_nil ?_
    refine x_tn ?_
    refine wp_seq ?_
    refine sx_list ?_
    refine l_do f rfl rfl rfl (y_assign rfl rfl) ?_; clear f A; intro A f
    refine wpList_nil ?_
    refine x_tn ?_
    refine wp_seq ?_
    refine wp_seq ?_
    refine sx_quiet (by kernel_rfl) (by kernel_rfl) ?_
    refine q_do f rfl rfl rfl (y_move rfl rfl) ?_; clear f A; intro A f
    refine q_do f rfl rfl rfl (y_nil rfl rfl) ?_; clear f A; intro A f
    refine q_do f rfl rfl rfl (y_loadN (vs := [_, _, _, _, _]) rfl rfl (ag rfl) rfl (rowls (rowq rhbk) _ _ ⟨rfl, rfl, rfl, rfl, rfl, trivial⟩)) ?_; clear f A; intro A f
    refine q_do f rfl rfl rfl (y_loadN (vs := [_, _, _, _]) rfl rfl (ag rfl) rfl (rowls (rowq rb6) _ _ ⟨rfl, rfl, rfl, rfl, trivial⟩)) ?_; clear f A; intro A f
    refine q_call f rfl rfl rfl (IsCall.mk' (cap := []) rfl rfl rfl) (pl rfl) (fun wx hx => (pListAt_c wx y ⟨cpu, (zI : Nat), tI, []⟩ (.slice none 0 0) (HY.at_.below (Below.next B0 hx)) hord hA).mono (fun e w1 h1 => ⟨h1.1, Below.next hx h1.2⟩)) ?_; clear f A; intro A f
    refine q_do f rfl rfl rfl (y_move rfl rfl) ?_; clear f A; intro A f
    refine q_do f rfl rfl rfl (y_ext rfl rfl rfl) ?_; clear f A; intro A f
    refine q_do f rfl rfl rfl (y_ext rfl rfl rfl) ?_; clear f A; intro A f
    refine q_do f rfl rfl rfl (y_assign rfl rfl) ?_; clear f A; intro A f
    skip
    refine q_do f rfl rfl rfl (y_assign rfl rfl) ?_; clear f A; intro A f
    refine wpQuiet_nil ?_; intro W10 hb9; replace B0 := Below.next B0 hb9; replace rhbk := row_next rhbk hb9; replace rb6 := row_next rb6 hb9
    refine x_tn ?_
    refine wp_seq ?_
    refine sx_list ?_
    refine l_do f rfl rfl rfl (y_move rfl rfl) ?_; clear f A; intro A f
    refine wpList_nil ?_
    refine x_tn ?_
    refine x_condT f rfl ?_
    refine sx_list ?_
    refine l_do f rfl rfl rfl (y_move rfl rfl) ?_; clear f A; intro A f
    refine l_do f rfl rfl rfl (y_nil rfl rfl) ?_; clear f A; intro A f
    refine l_do f rfl rfl rfl (y_field rfl rfl (fo rfl)) ?_; clear f A; intro A f
    refine l_do f rfl rfl rfl (y_load1 rfl rfl (ag rfl) (rowl (rowq rhbk) rfl)) ?_; clear f A; intro A f
    refine l_do f rfl rfl rfl (y_move rfl rfl) ?_; clear f A; intro A f
    obtain ⟨gk, ok, lck, lzk, ltk, lpk, pok, pnk, pck, hak, c0k, c1k, c2k, c3k, hatk, hXk⟩ := HY.at_.lists.at (i) (by omega)
    replace c0k := St.of c0k; replace c1k := St.of c1k; replace c2k := St.of c2k; replace c3k := St.of c3k
    have hke : y.ls.getD i .zero = ⟨⟨lck, lzk, ltk, lpk⟩, pok, pnk, pck⟩ := hXk.out
    have hmk : (⟨⟨lck, lzk, ltk, lpk⟩, pok, pnk, pck⟩ : Lc) ∈ y.ls := by rw [← hke]; exact getD_mem (by have := HY.at_.lists.len; omega)
    obtain rfl : pnk = pck := (hcap _ hmk).symm
    have hmL : (⟨lck, lzk, ltk, lpk⟩ : Ls) ∈ y.hp.lists := List.mem_map.2 ⟨_, hmk, rfl⟩
    have hk8 : pnk ≤ 8 := by have h1 : lpk.length ≤ 8 := (lss_mem hM.ls hmL).n.2; have := hatk.len; omega
    have hkl := hatk.len
    refine l_do f rfl rfl rfl (y_index rfl rfl (by first | rfl | assumption) rfl (es rfl) (by omega)) ?_; clear f A; intro A f
    refine l_do f rfl rfl rfl (y_field rfl rfl (fo rfl)) ?_; clear f A; intro A f
    refine l_do f rfl rfl rfl (y_load1 rfl rfl (ag rfl) (by first | assumption | exact St.q c0q B0 | exact St.q c1q B0 | exact St.q c2q B0 | exact St.q c3q B0 | exact St.q c0k B0 | exact St.q c1k B0 | exact St.q c2k B0 | exact St.q c3k B0)) ?_; clear f A; intro A f
    refine l_do f rfl rfl rfl (y_assign rfl rfl) ?_; clear f A; intro A f
    refine wpList_nil ?_
    refine x_tn ?_
    refine wp_seq ?_
    refine sx_list ?_
    refine l_do f rfl rfl rfl (y_move rfl rfl) ?_; clear f A; intro A f
    refine l_do f rfl rfl rfl (y_move rfl rfl) ?_; clear f A; intro A f
    obtain ⟨gb, hgb⟩ : ∃ g, g = W10.heap.size := ⟨_, rfl⟩
    refine l_opR (R := fun v W => v = .slice (some ⟨gb, 0, none⟩) 1 1 ∧ Below W10.heap.size W10 W ∧ W.heap[gb]? = some (.cells #[.int .i64 p] 3 (0, 0))) f rfl rfl rfl ⟨_, _, bs_exec f rfl rfl (bs_int1 _ _), by rw [hgb], (Below.refl _ _).alloc (Nat.le_refl _) _, by rw [hgb]; show (Array.push _ _)[_]? = _; rw [Array.getElem?_push, if_pos rfl]⟩ ?_
    clear f A
    rintro _ W11 ⟨rfl, hb12, rgb⟩ A f
    replace B0 := Below.next B0 hb12; replace rhbk := row_next rhbk hb12; replace rb6 := row_next rb6 hb12
    obtain ⟨s9, hs9⟩ : ∃ n, n = W11.heap.size := ⟨_, rfl⟩
    have hsw := B0.size
    have l9_hbk := row_lt rhbk
    have l9_b6 := row_lt rb6
    refine l_opR (R := fun v W => ∃ gp cp, v = .slice (some ⟨gp, 0, none⟩) (pnk + 1) cp ∧ W.ownsRow s9 3 1 (.slice (some ⟨gp, 0, none⟩) (pnk + 1) cp) (pnk + 1) (vals (lpk ++ [p])) ∧ Below W11.heap.size W11 W ∧ s9 ≤ gp) f rfl rfl rfl (by obtain ⟨g1, c1, W1, h1, h2, h3, h4⟩ := app1_run W11 _ pok pnk lpk p gb (hatk.below B0) (by omega) rgb (fun e => nums_nil (by rw [← e]; exact hatk)); rw [hs9]; exact ⟨_, W1, append_exec f rfl rfl rfl h1, g1, c1, rfl, h2, h3, h4⟩) ?_
    clear f A
    rintro _ W13 ⟨gp, cp, rfl, own9, hb14, hgp⟩ A f
    replace B0 := Below.next B0 hb14; replace rhbk := row_next rhbk hb14; replace rb6 := row_next rb6 hb14
    have hgw9 : gp < W13.heap.size := (owns_blk own9 _ rfl).2.1
    have hc9 := owns_cap own9
    refine l_do f rfl rfl rfl (y_assign rfl rfl) ?_; clear f A; intro A f
    refine wpList_nil ?_
    refine x_tn ?_
    refine wp_seq ?_
    refine wp_seq ?_
    refine sx_list ?_
    refine l_do f rfl rfl rfl (y_move rfl rfl) ?_; clear f A; intro A f
    refine l_do f rfl rfl rfl (y_len rfl rfl (sl rfl)) ?_; clear f A; intro A f
    refine l_if _ f rfl rfl rfl (y_gtr rfl rfl rfl) ?_ ?_
    · clear f A; intro c15 A f
      refine wpList_nil ?_
      refine x_tn ?_
      refine x_condT f rfl ?_
      refine wp_seq ?_
      refine wp_seq ?_
      refine sx_list ?_
      refine l_do f rfl rfl rfl (y_move rfl rfl) ?_; clear f A; intro A f
      refine l_do f rfl rfl rfl (y_move rfl rfl) ?_; clear f A; intro A f
      refine l_do f rfl rfl rfl (y_sliceHi (H := 4) rfl rfl (by omega)) ?_; clear f A; intro A f
      obtain rfl : pnk = 8 := by omega
      have hlz : 0 < y.zs.length := by have := HY.at_.zones.len; omega
      have e4 : (lpk ++ [p]).take 4 = lpk.take 4 := by rw [List.take_append_of_le_length (by omega)]
      have hcan : CanBacks y.hp ((lpk ++ [p]).take 4) := by rw [e4]; exact (hM.four hmL 4).1
      have hN4 : Nums W13 (some ⟨gp, 0, none⟩) 4 ((lpk ++ [p]).take 4) := nums_take (nums_of_owns own9 (by omega)) (by omega)
      refine l_call f rfl rfl rfl (IsCall.mk' (cap := []) rfl rfl rfl) (pl rfl) (pBackAllF_ok _ B gz hbk y (some ⟨gp, 0, none⟩) 4 cp _ rhbk (HY.below B0) hhz hN4 (fun _ a ha => by cases ha; dsimp only; omega) hcan) ?_
      clear f A
      rintro _ W16 ⟨rfl, zs, hzs, HY2, hbt, haf⟩
      refine ⟨_, rfl, ?_⟩
      intro A f
      have lb10 := row_lt rb6
      replace rhbk := But.row hbt rhbk hhz
      replace rb6 := But.row hbt rb6 (by omega)
      replace own9 := owns_butN own9 hbt (fun a ha => by cases ha; dsimp only; omega)
      replace ol := owns_butN (owns_below ol B0 (Nat.le_refl _)) hbt (fun a ha => by have := el a ha; omega)
      have hex := (Ex.of_below (P := fun k => k = gz ∨ k = gl ∨ k = hbk) B0).trans (Ex.of_but hbt (.inl rfl))
      have hsB := B0.size
      have hsb := hbt.size
      have hr2 := HRest.of HY2.at_
      have af9 : AwayL gp (y.withZ zs) := awayL_withZ (awayL_old HY.at_ (by omega)) (haf gp hgw9 (awayF_old HY.at_ (by omega))) hlz
      have al2 : AwayL gl (y.withZ zs) := awayL_withZ al (haf gl (by omega) al.toF) hlz
      have ah2 : AwayL hbk (y.withZ zs) := awayL_withZ ah (haf hbk (by have := row_lt rhbk; omega) ah.toF) hlz
      refine l_do f rfl rfl rfl (y_assign rfl rfl) ?_; clear f A; intro A f
      refine wpList_nil ?_
      refine x_tn ?_
      refine wp_seq ?_
      refine sx_list ?_
      refine l_do f rfl rfl rfl (y_move rfl rfl) ?_; clear f A; intro A f
      refine l_if _ f rfl rfl rfl (y_neq rfl rfl rfl) ?_ ?_
      · intro c17; exfalso; omega
      · clear f A; intro c17 A f
        refine wpList_nil ?_
        refine x_tn ?_
        refine x_condF f rfl ?_
        refine wp_skip ?_
        refine x_tn ?_
        refine sx_list ?_
        refine l_do f rfl rfl rfl (y_move rfl rfl) ?_; clear f A; intro A f
        refine l_call f rfl rfl rfl (IsCall.mk' (cap := []) rfl rfl rfl) (pl rfl) (iDel4_any _ s9 gp cp (lpk ++ [p]) own9) ?_
        clear f A
        rintro _ W18 ⟨rfl, own5, hb19⟩
        refine ⟨_, rfl, ?_⟩
        intro A f
        replace rhbk := But.row hb19 rhbk (by omega)
        replace rb6 := But.row hb19 rb6 (by omega)
        replace ol := owns_butN ol hb19 (fun a ha => by have := el a ha; omega)
        replace hex := hex.new hb19 (by omega)
        replace hr2 := hr2.but af9 hb19
        refine l_do f rfl rfl rfl (y_assign rfl rfl) ?_; clear f A; intro A f
        refine wpList_nil ?_
        refine x_tn ?_
        refine wp_seq ?_
        refine sx_list ?_
        refine l_do f rfl rfl rfl (y_move rfl rfl) ?_; clear f A; intro A f
        refine l_do f rfl rfl rfl (y_loadN (vs := [_, _, _, _]) rfl rfl (ag rfl) rfl (rowls (rowq rb6) _ _ ⟨rfl, rfl, rfl, rfl, trivial⟩)) ?_; clear f A; intro A f
        refine l_do f rfl rfl rfl (y_move rfl rfl) ?_; clear f A; intro A f
        have hAt : (y.withZ zs).At W18 := at_withL hr2 ol HY.at_.lists.reach hr2.pages
        have hsz := hex.size
        have hN5 : Nums W18 (some ⟨gp, 0, none⟩) 5 ((lpk ++ [p]).drop 4) := nums_of_owns own5 (by omega)
        refine l_call f rfl rfl rfl (IsCall.mk' (cap := []) rfl rfl rfl) (pl rfl) (pSetList_t _ B gl hbk (y.withZ zs) ⟨cpu, (zI : Nat), tI, ((lpk ++ [p]).drop 4)⟩ (.slice none 0 0) (some ⟨gp, 0, none⟩) 5 cp i rhbk ol el hAt al2 ah2 hhl (by omega) hord hN5 (fun _ a ha => by cases ha; dsimp only; omega) (by omega) (by show y.ln ≤ 300; omega) (by show i < y.ln; omega) hA) ?_
        clear f A
        rintro _ W20 ⟨rfl, ls2, lo2, ln2, lc2, rh2, hAt2, hls2, hbu, hlo2, hmem2⟩
        refine ⟨_, rfl, ?_⟩
        intro A f
        refine wpList_nil ?_
        refine x_tn ?_
        refine wp_seq ?_
        refine sx_list ?_
        refine l_do f rfl rfl rfl (y_assign rfl rfl) ?_; clear f A; intro A f
        refine wpList_nil ?_
        refine x_tn ?_
        refine wp_ret ?_
        refine x_ret1 f rfl rfl ?_
        -- return 0: ¬c5@33 c15@62 ¬c17@68
        have hL : lsPages y.hp.lists ⟨cpu, (zI : Nat), tI, []⟩ = lpk := by rw [lsPages_at hrp hA]; rw [if_pos rfl]; show ((List.map (fun x : Lc => x.l) y.ls).getD i Ls.zero).pages = lpk; rw [getD_l, hke]
        refine ⟨rfl, (y.withZ zs).withL ls2 lo2 ln2 lc2, rh2, hAt2, ?_, hex.trans (Ex.of_bu2 hbu (.inr (.inr rfl)) (.inr (.inl rfl))), fun b hb hbl ha => ?_, rfl⟩
        · unfold keepH
          rw [hzI, htI, hL, if_pos (by rw [List.length_append]; simp only [List.length_cons, List.length_nil]; omega)]
          show ({ (y.withZ zs).hp with lists := ls2.map (·.l) } : Hp) = _
          rw [hzs, hls2]
          rfl
        · exact away_withL (awayF_away ha (haf b (by omega) ⟨ha.f, ha.t⟩)) (fun _ a h => by rcases hlo2 a h with e | e <;> omega) (fun l hl => by rcases hmem2 l hl with h | rfl; (exact .inl h); exact .inr (fun a h => by cases h; dsimp only; omega))
    · clear f A; intro c15 A f
      refine wpList_nil ?_
      refine x_tn ?_
      refine x_condF f rfl ?_
      refine wp_skip ?_
      refine x_tn ?_
      refine wp_seq ?_
      refine sx_list ?_
      refine l_do f rfl rfl rfl (y_move rfl rfl) ?_; clear f A; intro A f
      refine l_do f rfl rfl rfl (y_loadN (vs := [_, _, _, _]) rfl rfl (ag rfl) rfl (rowls (rowq rb6) _ _ ⟨rfl, rfl, rfl, rfl, trivial⟩)) ?_; clear f A; intro A f
      refine l_do f rfl rfl rfl (y_move rfl rfl) ?_; clear f A; intro A f
      have hlz : 0 < y.zs.length := by have := HY.at_.zones.len; omega
      have hAt := HY.at_.below B0
      replace ol := owns_below ol B0 (Nat.le_refl _)
      have hex := Ex.of_below (P := fun k => k = gz ∨ k = gl ∨ k = hbk) B0
      have hsz := B0.size
      have al2 := al
      have ah2 := ah
      have hN5 : Nums W13 (some ⟨gp, 0, none⟩) (pnk + 1) (lpk ++ [p]) := nums_of_owns own9 (by omega)
      refine l_call f rfl rfl rfl (IsCall.mk' (cap := []) rfl rfl rfl) (pl rfl) (pSetList_t _ B gl hbk y ⟨cpu, (zI : Nat), tI, (lpk ++ [p])⟩ (.slice none 0 0) (some ⟨gp, 0, none⟩) (pnk + 1) cp i rhbk ol el hAt al2 ah2 hhl (by omega) hord hN5 (fun _ a ha => by cases ha; dsimp only; omega) (by omega) (by show y.ln ≤ 300; omega) (by show i < y.ln; omega) hA) ?_
      clear f A
      rintro _ W21 ⟨rfl, ls2, lo2, ln2, lc2, rh2, hAt2, hls2, hbu, hlo2, hmem2⟩
      refine ⟨_, rfl, ?_⟩
      intro A f
      refine wpList_nil ?_
      refine x_tn ?_
      refine wp_seq ?_
      refine sx_list ?_
      refine l_do f rfl rfl rfl (y_assign rfl rfl) ?_; clear f A; intro A f
      refine wpList_nil ?_
      refine x_tn ?_
      refine wp_ret ?_
      refine x_ret1 f rfl rfl ?_
      -- return 1: ¬c5@33 ¬c15@62
      have hL : lsPages y.hp.lists ⟨cpu, (zI : Nat), tI, []⟩ = lpk := by rw [lsPages_at hrp hA]; rw [if_pos rfl]; show ((List.map (fun x : Lc => x.l) y.ls).getD i Ls.zero).pages = lpk; rw [getD_l, hke]
      refine ⟨rfl, y.withL ls2 lo2 ln2 lc2, rh2, hAt2, ?_, hex.trans (Ex.of_bu2 hbu (.inr (.inr rfl)) (.inr (.inl rfl))), fun b hb hbl ha => ?_, rfl⟩
      · unfold keepH
        rw [hzI, htI, hL, if_neg (by rw [List.length_append]; simp only [List.length_cons, List.length_nil]; omega)]
        show ({ y.hp with lists := ls2.map (·.l) } : Hp) = _
        rw [hls2]
      · exact away_withL ha (fun _ a h => by rcases hlo2 a h with e | e <;> omega) (fun l hl => by rcases hmem2 l hl with h | rfl; (exact .inl h); exact .inr (fun a h => by cases h; dsimp only; omega))

end Go.Proofs.Ytbjlbmofdnkmiaa

/-
  OWN TEXT. Contracts of the code: pages.release (written by sxfree.py).
-/
namespace Go.Proofs.Ytbjlbmofdnkmiaa
open Go Go.RowKit Go.Proofs.Ytbjlbmofdnkmiaa.Kit

theorem rise_of {y : Hx} (h : LssOk y.hp) : RiseL y.ls := fun k h0 h1 => by
  have e : y.hp.lists.length = y.ls.length := by show (y.ls.map _).length = _; rw [List.length_map]
  have := h.ord k h0 (by omega)
  rw [show y.hp.lists = y.ls.map (·.l) from rfl, getD_l, getD_l] at this
  exact this
theorem pKeep_any (w : World) (B gz gl hbk : Nat) (y : Hx) (cpu p : Int) (rhbk : w.heap[hbk]? = some (.cells #[.slice y.zo y.zn y.zc, .slice y.mo y.mn y.mc, .int .i64 y.cpus, .slice y.lo y.ln y.lc, .slice y.vo y.vn y.vc] 28 (0, 0))) (HY : HZ w B gz y) (ol : w.ownsRow B 57 4 (.slice y.lo y.ln y.lc) y.ln (c4 (y.ls.map Lc.q))) (el : ∀ a, y.lo = some a → a.block = gl) (al : AwayL gl y) (ah : AwayL hbk y)
    (hhz : hbk ≠ gz) (hhl : hbk ≠ gl) (hzl : gz ≠ gl) (hgw : gl < w.heap.size) (hzw : gz < w.heap.size) (hcap : ∀ l ∈ y.ls, l.pc = l.pn) (hM : HMid y.hp) (hp : 0 ≤ p ∧ p < 256) (hB : B ≤ w.heap.size) :
    Calls Try.prog 71 #[.pointer (some ⟨hbk, 0, none⟩), .int .i64 cpu, .int .i64 p] w fun e w' => e = .returned (.int .i64 0) ∧ ∃ y2 : Hx, w'.heap[hbk]? = some (.cells #[.slice y2.zo y2.zn y2.zc, .slice y2.mo y2.mn y2.mc, .int .i64 y2.cpus, .slice y2.lo y2.ln y2.lc, .slice y2.vo y2.vn y2.vc] 28 (0, 0)) ∧ y2.At w' ∧ y2.hp = keepH y.hp cpu p ∧ Ex (fun k => k = gz ∨ k = gl ∨ k = hbk) w w' ∧ (∀ b, b < w.heap.size → b ≠ gl → Away b y → Away b y2) ∧ y2.zo = y.zo := by
  obtain ⟨i, b, hA⟩ := at_exists (riseP_of (rise_of hM.ls)) ⟨cpu, (zIdx y.hp p : Nat), typeZ (y.hp.zones.getD (zIdx y.hp p) ⟨0, 0, [], []⟩) p, []⟩
  cases b
  · exact pKeep_f w B gz gl hbk y cpu p i _ _ rhbk HY ol el al ah hhz hhl hzl hgw hzw hcap hM hp hB rfl rfl hA
  · exact pKeep_t w B gz gl hbk y cpu p i _ _ rhbk HY ol el al ah hhz hhl hzl hgw hzw hcap hM hp hB rfl rfl hA
/-- A block that is not away any more: plain. -/
def releaseH (H : Hp) (cpu : Int) (b : Bk) : Hp := if 0 < b.o then backH H b.a b.o else keepH H cpu b.a

set_option maxRecDepth 10000 in
set_option maxHeartbeats 4000000 in
theorem pRelease_ok (w : World) (B gz gl hbk : Nat) (y : Hx) (cpu a o t : Int) (rhbk : w.heap[hbk]? = some (.cells #[.slice y.zo y.zn y.zc, .slice y.mo y.mn y.mc, .int .i64 y.cpus, .slice y.lo y.ln y.lc, .slice y.vo y.vn y.vc] 28 (0, 0))) (HY : HZ w B gz y) (ol : w.ownsRow B 57 4 (.slice y.lo y.ln y.lc) y.ln (c4 (y.ls.map Lc.q))) (el : ∀ a, y.lo = some a → a.block = gl) (al : AwayL gl y) (ah : AwayL hbk y)
    (hhz : hbk ≠ gz) (hhl : hbk ≠ gl) (hzl : gz ≠ gl) (hgw : gl < w.heap.size) (hzw : gz < w.heap.size) (hcap : ∀ l ∈ y.ls, l.pc = l.pn) (hM : HMid y.hp) (hp : 0 ≤ a ∧ a < 256) (hB : B ≤ w.heap.size) (ho : 0 ≤ o) (hcb : 0 < o → CanBack y.hp a o) :
    Calls Try.prog 49 #[.pointer (some ⟨hbk, 0, none⟩), .int .i64 cpu, .agg #[.int .i64 a, .int .i64 o, .int .i64 t]] w fun e w' => e = .returned (.int .i64 0) ∧ ∃ y2 : Hx, w'.heap[hbk]? = some (.cells #[.slice y2.zo y2.zn y2.zc, .slice y2.mo y2.mn y2.mc, .int .i64 y2.cpus, .slice y2.lo y2.ln y2.lc, .slice y2.vo y2.vn y2.vc] 28 (0, 0)) ∧ y2.At w' ∧ y2.hp = releaseH y.hp cpu ⟨a, o, t⟩ ∧ Ex (fun k => k = gz ∨ k = gl ∨ k = hbk) w w' ∧ (∀ b, b < w.heap.size → b ≠ gl → Away b y → Away b y2) ∧ y2.zo = y.zo := by
  have B0 := Below.refl w.heap.size w
  refine sx_enter (args := [_, _, _]) 21 Try.func49 rfl rfl rfl ?_
  intro A f
  refine wp_seq ?_
  refine sx_list ?_
  refine l_box f rfl rfl rfl rfl rfl ?_; clear f A; intro b1 W2 eb1 hb3 rb1 A f; dsimp only [Value.cells] at rb1
  have o_hbk_b1 : hbk < b1 := by have := row_lt rhbk; omega
  have z_B0_b1 := B0.size; rw [eb1] at z_B0_b1
  replace B0 := Below.next B0 hb3; replace rhbk := row_next rhbk hb3
  refine l_do f rfl rfl rfl (y_assign rfl rfl) ?_; clear f A; intro A f
  refine wpList_nil ?_
  refine x_tn ?_
  refine wp_seq ?_
  refine wp_seq ?_
  refine sx_list ?_
  refine l_do f rfl rfl rfl (y_field rfl rfl (fo rfl)) ?_; clear f A; intro A f
  refine l_do f rfl rfl rfl (y_load1 rfl rfl (ag rfl) (rowl (rowq rb1) rfl)) ?_; clear f A; intro A f
  refine l_if _ f rfl rfl rfl (y_gtr rfl rfl rfl) ?_ ?_
  · clear f A; intro c4 A f
    refine wpList_nil ?_
    refine x_tn ?_
    refine x_condT f rfl ?_
    refine wp_seq ?_
    refine sx_list ?_
    refine l_do f rfl rfl rfl (y_move rfl rfl) ?_; clear f A; intro A f
    refine l_do f rfl rfl rfl (y_field rfl rfl (fo rfl)) ?_; clear f A; intro A f
    refine l_do f rfl rfl rfl (y_load1 rfl rfl (ag rfl) (rowl (rowq rb1) rfl)) ?_; clear f A; intro A f
    refine l_do f rfl rfl rfl (y_field rfl rfl (fo rfl)) ?_; clear f A; intro A f
    refine l_do f rfl rfl rfl (y_load1 rfl rfl (ag rfl) (rowl (rowq rb1) rfl)) ?_; clear f A; intro A f
    refine l_call f rfl rfl rfl (IsCall.mk' (cap := []) rfl rfl rfl) (pl rfl) (pBackF_ok _ B gz hbk y a o rhbk (HY.below B0) hhz (hcb (by omega))) ?_
    clear f A
    rintro _ W5 ⟨rfl, z, hz, HY2, hbt, haf⟩
    refine ⟨_, rfl, ?_⟩
    intro A f
    replace rhbk := But.row hbt rhbk hhz
    have hsB := B0.size
    refine l_do f rfl rfl rfl (y_assign rfl rfl) ?_; clear f A; intro A f
    refine wpList_nil ?_
    refine x_tn ?_
    refine wp_ret ?_
    refine x_tr ?_
    refine x_ret1 f rfl rfl ?_
    -- return 0: c4@9
    refine ⟨rfl, y.setZ (zIdx y.hp a) z, rhbk, HY2.at_, ?_, (Ex.of_below B0).trans (Ex.of_but hbt (.inl rfl)), fun b hb _ ha => ?_, rfl⟩
    · rw [releaseH, if_pos (by show 0 < o; omega)]
      exact setZ_hp hz
    · have := haf b (by omega) ⟨ha.f, ha.t⟩
      exact ⟨this.f, this.t, ha.m, ha.l, ha.p, ha.v⟩
  · clear f A; intro c4 A f
    refine wpList_nil ?_
    refine x_tn ?_
    refine x_condF f rfl ?_
    refine wp_skip ?_
    refine x_tn ?_
    refine wp_seq ?_
    refine sx_list ?_
    refine l_do f rfl rfl rfl (y_move rfl rfl) ?_; clear f A; intro A f
    refine l_do f rfl rfl rfl (y_move rfl rfl) ?_; clear f A; intro A f
    refine l_do f rfl rfl rfl (y_field rfl rfl (fo rfl)) ?_; clear f A; intro A f
    refine l_do f rfl rfl rfl (y_load1 rfl rfl (ag rfl) (rowl (rowq rb1) rfl)) ?_; clear f A; intro A f
    have eo : o = 0 := by omega
    have hsB := B0.size
    refine l_call f rfl rfl rfl (IsCall.mk' (cap := []) rfl rfl rfl) (pl rfl) (pKeep_any _ B gz gl hbk y cpu a rhbk (HY.below B0) (owns_below ol B0 (Nat.le_refl _)) el al ah hhz hhl hzl (by omega) (by omega) hcap hM hp (by omega)) ?_
    clear f A
    rintro _ W6 ⟨rfl, y2, rh2, hAt2, hy2, hex, haw, hzo⟩
    refine ⟨_, rfl, ?_⟩
    intro A f
    refine l_do f rfl rfl rfl (y_assign rfl rfl) ?_; clear f A; intro A f
    refine wpList_nil ?_
    refine x_tn ?_
    refine wp_ret ?_
    refine x_ret1 f rfl rfl ?_
    -- return 1: ¬c4@9
    refine ⟨rfl, y2, rh2, hAt2, ?_, (Ex.of_below B0).trans hex, fun b hb hbl ha => haw b (by omega) hbl ha, hzo⟩
    rw [releaseH, if_neg (by show ¬ 0 < o; omega)]
    exact hy2


end Go.Proofs.Ytbjlbmofdnkmiaa

/-
  OWN TEXT. Several operations of a region that draws its order each make one block, in whatever order; over whatever program.
-/
namespace Go.Proofs.Ytbjlbmofdnkmiaa.Kit
open Go Go.RowKit

/-- The values, one of them changed. -/
def updF (f : Nat → Value) (j : Nat) (u : Value) : Nat → Value := fun k => if k = j then u else f k
theorem updF_same (f : Nat → Value) (j : Nat) (u : Value) : updF f j u j = u := by simp [updF]
theorem updF_other (f : Nat → Value) {j k : Nat} (u : Value) (h : k ≠ j) : updF f j u k = f k := by simp [updF, h]

theorem countP_upd {m j : Nat} {p q : Nat → Bool} (hj : j < m) (hp : p j = true) (hq : q j = false) (h : ∀ k, k ≠ j → q k = p k) : (List.range m).countP q + 1 = (List.range m).countP p := by
  induction m with
  | zero => omega
  | succ m ih =>
    rw [List.range_succ, List.countP_append, List.countP_append]
    by_cases e : j = m
    · subst e
      have : (List.range j).countP q = (List.range j).countP p := List.countP_congr fun k hk => by rw [h k (by have := List.mem_range.1 hk; omega)]
      simp [this, hp, hq]
    · have := ih (by omega)
      rw [show (List.countP q [m]) = List.countP p [m] by simp [List.countP_cons, h m (fun g => e g.symm)]]
      omega

/-- What is ready is one of the operations that have not come up; and there is one. -/
def rdyOk (md : Region.Mode) (l : List Oper) (listed : Array Bool) (ps : List (Nat × Bool)) : Bool :=
  ps.all (·.2) || (!(Region.ready md l.toArray listed).isEmpty && (Region.ready md l.toArray listed).all fun i => ps.any fun p => p.1 == i && !p.2)

theorem manyB {P : Program} {md : Region.Mode} {Q : Exit → Act → World → Prop} {S : World → Prop} {l : List Oper} (m mb : Nat) (hmb : mb ≤ m) (F : (Nat → Value) → Value → Act) (idx : Nat → Nat) (obj : Nat → Obj) (val : Nat → Nat → Value) (vb : (Nat → Nat) → Value) (L : (Nat → Bool) → Bool → Array Bool) {W0 : World} {fuel : Nat} {u0 : Value}
    (hop : ∀ j, j < m → ∃ o, l[idx j]? = some o ∧ o.guard = none ∧ ∀ (f : Nat → Value) (u : Value) (W : World) (K : Act → World → Prop), Below W0.heap.size W0 W → K (F (updF f j (val j W.heap.size)) u) (W.alloc (obj j)) → o.wp P (F f u) W K Q)
    (hset : ∀ j, j < m → ∀ b c, (L b c).setIfInBounds (idx j) true = L (fun k => if k = j then true else b k) c)
    (hL : ∀ b b' c, (∀ j, j < m → b j = b' j) → L b c = L b' c)
    (hF : ∀ f f' u, (∀ j, j < m → f j = f' j) → F f u = F f' u)
    (hvb : ∀ n n', (∀ j, j < mb → n j = n' j) → vb n = vb n')
    (hrdy' : ∀ b c, ((!c && (List.range mb).all b) || rdyOk md l (L b c) ((List.range m).map fun j => (idx j, b j))) = true)
    (hbuild : ∀ (b : Nat → Bool), (∀ j, j < mb → b j = true) → ∀ (f : Nat → Value) (n : Nat → Nat) (W : World) (fuel' : Nat), (∀ j, j < mb → f j = val j (n j)) → Below W0.heap.size W0 W → wpAnyH P md l.toArray Q S fuel' (L b true) (F f (vb n)) W → wpAnyH P md l.toArray Q S (fuel' + 1) (L b false) (F f u0) W)
    (hS : ∀ W, Below W0.heap.size W0 W → S W)
    (hend : ∀ (n : Nat → Nat) (W : World), Below W0.heap.size W0 W → (∀ j, j < m → W0.heap.size ≤ n j ∧ W.heap[n j]? = some (obj j)) → (∀ j k, j < m → k < m → j ≠ k → n j ≠ n k) → wpAnyH P md l.toArray Q S fuel (L (fun _ => true) true) (F (fun j => val j (n j)) (vb n)) W)
    (f0 : Nat → Value) : wpAnyH P md l.toArray Q S (fuel + m + 1) (L (fun _ => false) false) (F f0 u0) W0 := by
  have hrdy : ∀ (b : Nat → Bool) c, (c = true ∨ ∃ j, j < mb ∧ b j = false) → (∃ j, j < m ∧ b j = false) → Region.ready md l.toArray (L b c) ≠ [] ∧ ∀ i ∈ Region.ready md l.toArray (L b c), ∃ j, j < m ∧ i = idx j ∧ b j = false := by
    rintro b c hc ⟨j, hj, hjf⟩
    have h0 := hrdy' b c
    have h : rdyOk md l (L b c) ((List.range m).map fun j => (idx j, b j)) = true := by
      rcases Bool.or_eq_true _ _ ▸ h0 with h | h
      · exfalso
        rw [Bool.and_eq_true] at h
        rcases hc with rfl | ⟨k, hk, hkf⟩
        · simp at h
        · have := List.all_eq_true.1 h.2 k (List.mem_range.2 hk)
          rw [hkf] at this
          cases this
      · exact h
    unfold rdyOk at h
    rw [Bool.or_eq_true] at h
    rcases h with h | h
    · have := List.all_eq_true.1 h (idx j, b j) (List.mem_map.2 ⟨j, List.mem_range.2 hj, rfl⟩)
      rw [hjf] at this
      cases this
    · rw [Bool.and_eq_true] at h
      refine ⟨fun e => (by rw [e] at h; exact absurd h.1 (by simp)), fun i hi => ?_⟩
      have := List.all_eq_true.1 h.2 i hi
      obtain ⟨p, hp, hq⟩ := List.any_eq_true.1 this
      obtain ⟨k, hk, rfl⟩ := List.mem_map.1 hp
      simp only [Bool.and_eq_true, beq_iff_eq, Bool.not_eq_true'] at hq
      exact ⟨k, List.mem_range.1 hk, hq.1.symm, hq.2⟩
  suffices H : ∀ (c : Nat) (x : Nat → Option Nat) (bt : Bool) (u : Value) (f : Nat → Value) (W : World), (List.range m).countP (fun j => (x j).isNone) = c →
      (∀ j n, j < m → x j = some n → f j = val j n ∧ W0.heap.size ≤ n ∧ W.heap[n]? = some (obj j)) → (∀ j k n, j < m → k < m → j ≠ k → x j = some n → x k ≠ some n) → Below W0.heap.size W0 W →
      (bt = false → u = u0) → (bt = true → (∀ j, j < mb → (x j).isSome = true) ∧ u = vb fun j => (x j).getD 0) →
      wpAnyH P md l.toArray Q S (fuel + c + (if bt = true then 0 else 1)) (L (fun j => (x j).isSome) bt) (F f u) W by
    have h := H m (fun _ => none) false u0 f0 W0 (by simp) (fun j n _ h => by cases h) (fun j k n _ _ _ h => by cases h) (Below.refl _ _) (fun _ => rfl) (fun h => by cases h)
    simpa using h
  -- behind the build
  have done : ∀ (c : Nat) (x : Nat → Option Nat) (f : Nat → Value) (W : World), (List.range m).countP (fun j => (x j).isNone) = c →
      (∀ j n, j < m → x j = some n → f j = val j n ∧ W0.heap.size ≤ n ∧ W.heap[n]? = some (obj j)) → (∀ j k n, j < m → k < m → j ≠ k → x j = some n → x k ≠ some n) → Below W0.heap.size W0 W → c = 0 →
      wpAnyH P md l.toArray Q S fuel (L (fun j => (x j).isSome) true) (F f (vb fun j => (x j).getD 0)) W := by
    intro c x f W hc hx hd hb h0
    subst h0
    have hall : ∀ j, j < m → ∃ n, x j = some n := by
      intro j hj
      cases h : x j with
      | some n => exact ⟨n, rfl⟩
      | none =>
        have := (List.countP_eq_zero.1 hc) j (List.mem_range.2 hj)
        simp [h] at this
    have e1 : L (fun j => (x j).isSome) true = L (fun _ => true) true := hL _ _ _ fun j hj => by obtain ⟨n, hn⟩ := hall j hj; simp [hn]
    have e2 : F f (vb fun j => (x j).getD 0) = F (fun j => val j ((x j).getD 0)) (vb fun j => (x j).getD 0) := hF _ _ _ fun j hj => by obtain ⟨n, hn⟩ := hall j hj; rw [(hx j n hj hn).1, hn]; rfl
    rw [e1, e2]
    refine hend (fun j => (x j).getD 0) W hb (fun j hj => ?_) (fun j k hj hk hne => ?_)
    · obtain ⟨n, hn⟩ := hall j hj
      simp only [hn, Option.getD_some]
      exact (hx j n hj hn).2
    · obtain ⟨n, hn⟩ := hall j hj
      obtain ⟨n', hn'⟩ := hall k hk
      simp only [hn, hn', Option.getD_some]
      intro e
      exact hd j k n hj hk hne hn (by rw [hn', e])
  intro c
  induction c with
  | zero =>
    intro x bt u f W hc hx hd hb hu hu'
    have hall : ∀ j, j < m → ∃ n, x j = some n := by
      intro j hj
      cases h : x j with
      | some n => exact ⟨n, rfl⟩
      | none =>
        have := (List.countP_eq_zero.1 hc) j (List.mem_range.2 hj)
        simp [h] at this
    have hd0 := done 0 x f W hc hx hd hb rfl
    cases bt with
    | true =>
      rw [(hu' rfl).2]
      simpa using hd0
    | false =>
      rw [hu rfl]
      have := hbuild (fun j => (x j).isSome) (fun j hj => by obtain ⟨n, hn⟩ := hall j (by omega); simp [hn]) f (fun j => (x j).getD 0) W fuel (fun j hj => by obtain ⟨n, hn⟩ := hall j (by omega); rw [(hx j n (by omega) hn).1, hn]; rfl) hb hd0
      simpa using this
  | succ c ih =>
    have step : ∀ (x : Nat → Option Nat) (bt : Bool) (u : Value) (f : Nat → Value) (W : World), (List.range m).countP (fun j => (x j).isNone) = c + 1 →
      (∀ j n, j < m → x j = some n → f j = val j n ∧ W0.heap.size ≤ n ∧ W.heap[n]? = some (obj j)) → (∀ j k n, j < m → k < m → j ≠ k → x j = some n → x k ≠ some n) → Below W0.heap.size W0 W →
      (bt = false → u = u0) → (bt = true → (∀ j, j < mb → (x j).isSome = true) ∧ u = vb fun j => (x j).getD 0) → (bt = true ∨ ∃ j, j < mb ∧ (x j).isSome = false) →
      wpAnyH P md l.toArray Q S (fuel + (c + 1) + (if bt = true then 0 else 1)) (L (fun j => (x j).isSome) bt) (F f u) W := by
      intro x bt u f W hc hx hd hb hu hu' hbt
      have hex : ∃ j, j < m ∧ (x j).isSome = false := by
        apply Classical.byContradiction
        intro hno
        have : (List.range m).countP (fun j => (x j).isNone) = 0 := List.countP_eq_zero.2 fun j hj => by
          intro h
          exact hno ⟨j, List.mem_range.1 hj, by simpa using h⟩
        omega
      obtain ⟨r1, r2⟩ := hrdy (fun j => (x j).isSome) bt hbt hex
      have ef : fuel + (c + 1) + (if bt = true then 0 else 1) = (fuel + c + (if bt = true then 0 else 1)) + 1 := by omega
      rw [ef]
      refine ⟨fun h => absurd h r1, fun i hi => ?_⟩
      obtain ⟨j, hj, rfl, hn⟩ := r2 i hi
      obtain ⟨o, o1, o2, hwp⟩ := hop j hj
      have hnone : x j = none := by
        cases h : x j with
        | none => rfl
        | some n => rw [h] at hn; cases hn
      unfold wpOp
      have o1' : l.toArray[idx j]? = some o := by simpa using o1
      rw [o1']
      have hw : ∀ y, Region.wanted o y = true := fun y => by simp [Region.wanted, o2]
      simp only [hw, if_true]
      refine .inl (hwp f u W _ hb ?_)
      have hb' : Below W0.heap.size W0 (W.alloc (obj j)) := hb.alloc hb.size _
      have hg : ∀ n, n < W.heap.size → (W.alloc (obj j)).heap[n]? = W.heap[n]? := fun n hn => by
        show (W.heap.push (obj j))[n]? = _
        rw [Array.getElem?_push, if_neg (by omega)]
      have hself : (W.alloc (obj j)).heap[W.heap.size]? = some (obj j) := by
        show (W.heap.push (obj j))[W.heap.size]? = _
        rw [Array.getElem?_push, if_pos rfl]
      refine ⟨hS _ hb', ?_⟩
      rw [hset j hj]
      have key := ih (fun k => if k = j then some W.heap.size else x k) bt u (updF f j (val j W.heap.size)) (W.alloc (obj j)) (by
          have := countP_upd (m := m) (p := fun k => (x k).isNone) (q := fun k => (if k = j then some W.heap.size else x k).isNone) hj (by simp [hnone]) (by simp) (fun k hk => by simp [hk])
          omega) (fun k n hk h => by
          by_cases e : k = j
          · subst e
            simp only [if_true, Option.some.injEq] at h
            subst h
            exact ⟨updF_same _ _ _, hb.size, hself⟩
          · simp only [e, if_false] at h
            obtain ⟨h1, h2, h3⟩ := hx k n hk h
            have hlt := (Array.getElem?_eq_some_iff.1 h3).1
            exact ⟨by rw [updF_other _ _ e, h1], h2, (hg n hlt).trans h3⟩) (fun k k' n hk hk' hne h h' => by
          by_cases e : k = j
          · subst e
            have e' : ¬ k' = k := fun g => hne g.symm
            simp only [if_true, Option.some.injEq] at h
            simp only [e', if_false] at h'
            have := (Array.getElem?_eq_some_iff.1 (hx k' n hk' h').2.2).1
            omega
          · simp only [e, if_false] at h
            by_cases e' : k' = j
            · subst e'
              simp only [if_true, Option.some.injEq] at h'
              have := (Array.getElem?_eq_some_iff.1 (hx k n hk h).2.2).1
              omega
            · simp only [e', if_false] at h'
              exact hd k k' n hk hk' hne h h') hb' hu (fun h => by
          obtain ⟨a1, a2⟩ := hu' h
          have hjb : ¬ j < mb := fun hjb => by have := a1 j hjb; rw [hnone] at this; cases this
          refine ⟨fun k hk => ?_, ?_⟩
          · simp only [show ¬ k = j by omega, if_false]
            exact a1 k hk
          · rw [a2]
            exact hvb _ _ fun k hk => by simp only [show ¬ k = j by omega, if_false])
      have e1 : L (fun k => if k = j then true else (x k).isSome) bt = L (fun k => (if k = j then some W.heap.size else x k).isSome) bt := hL _ _ _ fun k _ => by
        by_cases e : k = j <;> simp [e]
      rw [e1]
      exact key
    intro x bt u f W hc hx hd hb hu hu'
    by_cases hq : bt = true ∨ ∃ j, j < mb ∧ (x j).isSome = false
    · exact step x bt u f W hc hx hd hb hu hu' hq
    · have hbt : bt = false := by cases bt with
        | false => rfl
        | true => exact absurd (.inl rfl) hq
      have hallb : ∀ j, j < mb → (x j).isSome = true := fun j hj => by
        cases h : (x j).isSome with
        | true => rfl
        | false => exact absurd (.inr ⟨j, hj, h⟩) hq
      subst hbt
      rw [hu rfl]
      have := step x true (vb fun j => (x j).getD 0) f W hc hx hd hb (fun h => by cases h) (fun _ => ⟨hallb, rfl⟩) (.inl rfl)
      have h2 := hbuild (fun j => (x j).isSome) hallb f (fun j => (x j).getD 0) W _ (fun j hj => by
        have := hallb j hj
        cases h : x j with
        | none => rw [h] at this; cases this
        | some n => rw [(hx j n (by omega) h).1]; rfl) hb this
      simpa using h2

end Go.Proofs.Ytbjlbmofdnkmiaa.Kit
