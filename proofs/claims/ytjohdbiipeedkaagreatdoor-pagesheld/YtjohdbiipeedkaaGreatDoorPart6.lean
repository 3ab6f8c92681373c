/-
  OWN TEXTS.
-/
import Derived.Test.YtjohdbiipeedkaaGreatDoorPart5
set_option maxRecDepth 10000
set_option maxHeartbeats 4000000
namespace Go.Proofs.YtjohdbiipeedkaaGreatDoor
open Go Go.RowKit Go.Proofs.YtjohdbiipeedkaaGreatDoor.Kit
def AtL (l : List Ls) (x : Ls) (i : Nat) (b : Bool) : Prop :=
 i ≤ l.length ∧ (∀ j, j < i → aheadL (l.getD j .zero) x) ∧ (∀ j, i ≤ j → j < l.length → ¬ aheadL (l.getD j .zero) x) ∧ (b = true ↔ i < l.length ∧ ((l.getD i .zero).c = x.c ∧ (l.getD i .zero).z = x.z ∧ (l.getD i .zero).t = x.t))
def RiseL (ls : List Lc) : Prop := ∀ i, 0 < i → i < ls.length → aheadL (ls.getD (i - 1) .zero).l (ls.getD i .zero).l
theorem ahead_trans {a b c : Ls} (h1 : aheadL a b) (h2 : aheadL b c) : aheadL a c := by
 unfold aheadL at *
 omega
theorem rise_two {ls : List Lc} (h : RiseL ls) : ∀ (d i : Nat), i + d + 1 < ls.length → aheadL (ls.getD i .zero).l (ls.getD (i + d + 1) .zero).l
 | 0, i, hi => by
  have := h (i + 1) (by omega) hi
  rwa [show i + 1 - 1 = i by omega] at this
 | d + 1, i, hi => by
  have h1 := rise_two h d i (by omega)
  have h2 := h (i + d + 2) (by omega) hi
  rw [show i + d + 2 - 1 = i + d + 1 by omega] at h2
  exact ahead_trans h1 h2
theorem rise_to {ls : List Lc} (h : RiseL ls) {k m : Nat} {x : Ls} (hk : k ≤ m) (hm : m < ls.length) (hx : aheadL (ls.getD m .zero).l x) : aheadL (ls.getD k .zero).l x := by
 by_cases e : k = m
 ·subst e; exact hx
 have := rise_two h (m - k - 1) k (by omega)
 rw [show k + (m - k - 1) + 1 = m by omega] at this
 exact ahead_trans this hx
theorem getD_l (ls : List Lc) (k : Nat) : (ls.map (·.l)).getD k .zero = (ls.getD k .zero).l := by
 simp only [List.getD_eq_getElem?_getD, List.getElem?_map]
 cases ls[k]? <;> rfl
theorem lBin_any (w : World) (lo : Option Addr) (ln lcap : Nat) (ls : List Lc) (x : Ls) (pv : Value) (h : Lsts w lo ln ls) (hord : RiseL ls) :
    Calls Tryz.prog 103 #[.slice lo ln lcap, .agg #[.int .i64 x.c, .int .i64 x.z, .int .i64 x.t, pv], .func (.func 56) #[] #[]] w fun e w' => (∃ (i : Nat) (b : Bool), e = .returned (.tuple #[.int .i64 (i : Nat), .bool b]) ∧ AtL (ls.map (·.l)) x i b) ∧ Below w.heap.size w w' := by
 have B0 := Below.refl w.heap.size w
 refine sx_enter (args := [_, _, _]) 49 Tryz.func103 rfl rfl rfl ?_
 refine vS (vR ?_); intro A f
 refine l_box f rfl rfl rfl rfl rfl ?_; clear f A; intro b1 W2 eb1 hb3 rb1 A f; dsimp only [Value.cells] at rb1
 have z_B0_b1 := B0.size; rw [eb1] at z_B0_b1
 replace B0 := Below.next B0 hb3
 revert A; refine vla (h:=vla (h:=vW (vS (vR (vlm (h:=vlz (h:=vla (h:=vW (vS (vR (vlm (h:=vla (h:=vla (h:=vW (vS (vB ?_))))))))))))))))
 have hl := h.len
 have hr := h.reach
 intro A f
 refine x_loop (fun n A W => ∃ i j : Nat, n = j - i ∧ i ≤ j ∧ j ≤ ln ∧ Fr A 49 [(0, .slice lo ln lcap), (2, .func (.func 56) #[] #[]), (4, .pointer (some ⟨b1, 0, none⟩)), (8, .int .i64 (ln : Nat)), (9, .int .i64 (i : Nat)), (10, .int .i64 (j : Nat))] ∧ Below w.heap.size w W ∧ (∀ k, k < i → aheadL (ls.getD k .zero).l x) ∧ (∀ k, j ≤ k → k < ln → ¬ aheadL (ls.getD k .zero).l x) ∧ W.heap[b1]? = some (.cells #[.int .i64 x.c, .int .i64 x.z, .int .i64 x.t, pv] 69 (0, 0))) (n0 := ln) (⟨0, ln, rfl, Nat.zero_le _, Nat.le_refl _, f.sub ⟨rfl, rfl, rfl, rfl, rfl, rfl, trivial⟩, B0, fun k hk => absurd hk (Nat.not_lt_zero k), fun k h1 h2 => by omega, rb1⟩) ?_
 clear f A
 clear B0 rb1
 rintro n A W4 ⟨i, j, hn, hij, hj, f, B0, hI, hJ, rb1⟩
 revert A; refine vS (vS (vR (vlm (h:=vlm (h:=vlb (y_lss rfl rfl rfl) (h:=?_) (g:=?_))))))
 ·intro c5
  refine vW (vC (h:=vK (vT (vB (vS (vR (vlm (h:=vlm (h:=vlA (h:=vld (y_conv rfl rfl (by kernel_rfl) (by kernel_rfl) (wrap_u (by omega) (by omega))) (h:=?_)))))))))))
  obtain ⟨m, hm⟩ : ∃ m : Nat, ((i : Int) + (j : Int)) / 2 = (m : Int) := ⟨(i + j) / 2, by omega⟩
  refine vld (y_half rfl rfl hm) (h:=vld (y_conv rfl rfl (by kernel_rfl) (by kernel_rfl) (wrap_i (by omega) (by omega))) (h:=vla (h:=vW (vS ?_)))); intro A f
  refine sx_quiet (by kernel_rfl) (by kernel_rfl) ?_
  revert A; refine vqm (h:=vqm (h:=vqm (h:=?_)))
  obtain ⟨gl, ol, lcl, lzl, ltl, lpl, pol, pnl, pcl, hal, c0l, c1l, c2l, c3l, hatl, hXl⟩ := h.at (m) (by omega)
  replace c0l := St.of c0l; replace c1l := St.of c1l; replace c2l := St.of c2l; replace c3l := St.of c3l
  refine vqx (h:=vqd (y_loadN (vs := [_, _, _, _]) rfl rfl (ag rfl) rfl ⟨(by first | assumption | exact St.q c0l B0 | exact St.q c1l B0 | exact St.q c2l B0 | exact St.q c3l B0), (by first | assumption | exact St.q c0l B0 | exact St.q c1l B0 | exact St.q c2l B0 | exact St.q c3l B0), (by first | assumption | exact St.q c0l B0 | exact St.q c1l B0 | exact St.q c2l B0 | exact St.q c3l B0), (by first | assumption | exact St.q c0l B0 | exact St.q c1l B0 | exact St.q c2l B0 | exact St.q c3l B0), trivial⟩) (h:=vq4 (rowq rb1) (h:=vqc (c_cl (fun wx => pByOwner_any wx ⟨lcl, lzl, ltl, lpl⟩ x _ _)) (h:=vqb (y_lss rfl rfl rfl) (h:=?_) (g:=?_)))))
  ·intro c6
   refine vQ ?_; intro W8 hb7; replace B0 := Below.next B0 hb7; replace rb1 := row_next rb1 hb7
   refine vT (vC (h:=vR (vlm (h:=vlA (h:=vla (h:=vN (vU (vT ?_)))))))); intro A f
   exact ⟨j - (m + 1), by omega, m + 1, j, rfl, by omega, by omega, f.sub ⟨rfl, rfl, rfl, rfl, rfl, rfl, trivial⟩, B0, fun k hk => rise_to (m := m) hord (by omega) (by omega) (by rw [hXl.out]; exact (ownC_neg _ _).1 c6), hJ, rb1⟩
  intro c6
  refine vQ ?_; intro W10 hb9; replace B0 := Below.next B0 hb9; replace rb1 := row_next rb1 hb9
  refine vT (vD (h:=vR (vlm (h:=vla (h:=vN (vU (vT ?_))))))); intro A f
  exact ⟨m - i, by omega, i, m, rfl, by omega, by omega, f.sub ⟨rfl, rfl, rfl, rfl, rfl, rfl, trivial⟩, B0, hI, fun k h1 h2 h3 => c6 ((ownC_neg _ _).2 (by have := rise_to hord h1 (by omega) h3; rwa [hXl.out] at this)), rb1⟩
 intro c5
 refine vW (vD (h:=vX (vH (vH (vI (vT (vS ?_))))))); intro A f
 refine sx_quiet (by kernel_rfl) (by kernel_rfl) ?_
 revert A; refine vqm (h:=vqm (h:=vqm (h:=vqb (y_lss rfl rfl rfl) (h:=?_) (g:=?_))))
 ·intro c11
  refine vqm (h:=vqm (h:=vqm (h:=vqm (h:=?_))))
  obtain ⟨gk, ok, lck, lzk, ltk, lpk, pok, pnk, pck, hak, c0k, c1k, c2k, c3k, hatk, hXk⟩ := h.at (i) (by omega)
  replace c0k := St.of c0k; replace c1k := St.of c1k; replace c2k := St.of c2k; replace c3k := St.of c3k
  refine vqx (h:=vqd (y_loadN (vs := [_, _, _, _]) rfl rfl (ag rfl) rfl ⟨(by first | assumption | exact St.q c0k B0 | exact St.q c1k B0 | exact St.q c2k B0 | exact St.q c3k B0), (by first | assumption | exact St.q c0k B0 | exact St.q c1k B0 | exact St.q c2k B0 | exact St.q c3k B0), (by first | assumption | exact St.q c0k B0 | exact St.q c1k B0 | exact St.q c2k B0 | exact St.q c3k B0), (by first | assumption | exact St.q c0k B0 | exact St.q c1k B0 | exact St.q c2k B0 | exact St.q c3k B0), trivial⟩) (h:=vq4 (rowq rb1) (h:=vqc (c_cl (fun wx => pByOwner_any wx ⟨lck, lzk, ltk, lpk⟩ x _ _)) (h:=vqb (y_eql rfl rfl rfl) (h:=?_) (g:=?_)))))
  ·intro c12
   refine vqp (h:=vqa (h:=vqa (h:=vQ ?_))); intro W14 hb13; replace B0 := Below.next B0 hb13; replace rb1 := row_next rb1 hb13
   refine vT (vE ?_); intro A f
   refine x_ret2 f rfl rfl rfl ?_
   have eij : i = j := by omega
   subst eij
   exact ⟨⟨i, true, rfl, ⟨by rw [List.length_map]; omega, fun k hk => by rw [getD_l]; exact hI k hk, fun k h1 h2 => by rw [List.length_map] at h2; rw [getD_l]; exact hJ k h1 (by omega), fun _ => ⟨by rw [List.length_map]; omega, by rw [getD_l, hXk.out]; exact (ownC_zero _ _).1 c12⟩, fun _ => rfl⟩⟩, B0⟩
  intro c12
  refine vqp (h:=vqa (h:=vqa (h:=vQ ?_))); intro W16 hb15; replace B0 := Below.next B0 hb15; replace rb1 := row_next rb1 hb15
  refine vT (vE ?_); intro A f
  refine x_ret2 f rfl rfl rfl ?_
  have eij : i = j := by omega
  subst eij
  exact ⟨⟨i, false, rfl, ⟨by rw [List.length_map]; omega, fun k hk => by rw [getD_l]; exact hI k hk, fun k h1 h2 => by rw [List.length_map] at h2; rw [getD_l]; exact hJ k h1 (by omega), fun h => (by cases h), fun h => by have h1 := h.2; rw [getD_l, hXk.out] at h1; exact absurd ((ownC_zero _ _).2 h1) c12⟩⟩, B0⟩
 intro c11
 refine vqm (h:=vqO 8 (h:=vqp (h:=vqa (h:=vqa (h:=vQ ?_))))); intro W18 hb17; replace B0 := Below.next B0 hb17; replace rb1 := row_next rb1 hb17
 refine vT (vE ?_); intro A f
 refine x_ret2 f rfl rfl rfl ?_
 have eij : i = j := by omega
 subst eij
 exact ⟨⟨i, false, rfl, ⟨by rw [List.length_map]; omega, fun k hk => by rw [getD_l]; exact hI k hk, fun k h1 h2 => by rw [List.length_map] at h2; rw [getD_l]; exact hJ k h1 (by omega), fun h => (by cases h), fun h => by have h1 := h.1; rw [List.length_map] at h1; omega⟩⟩, B0⟩
theorem pListAt_any (w : World) (y : Hx) (x : Ls) (pv : Value) (hy : y.At w) (hord : RiseL y.ls) :
    Calls Tryz.prog 86 #[.agg #[.slice y.zo y.zn y.zc, .slice y.mo y.mn y.mc, .int .i64 y.cpus, .slice y.lo y.ln y.lc, .slice y.vo y.vn y.vc], .agg #[.int .i64 x.c, .int .i64 x.z, .int .i64 x.t, pv]] w fun e w' => (∃ (i : Nat) (b : Bool), e = .returned (.tuple #[.int .i64 (i : Nat), .bool b]) ∧ AtL y.hp.lists x i b) ∧ Below w.heap.size w w' := by
 have B0 := Below.refl w.heap.size w
 refine sx_enter (args := [_, _]) 12 Tryz.func86 rfl rfl rfl ?_
 refine vS (vR ?_); intro A f
 refine l_box f rfl rfl rfl rfl rfl ?_; clear f A; intro b1 W2 eb1 hb3 rb1 A f; dsimp only [Value.cells] at rb1
 have z_B0_b1 := B0.size; rw [eb1] at z_B0_b1
 replace B0 := Below.next B0 hb3
 refine l_box f rfl rfl rfl rfl rfl ?_; clear f A; intro b4 W5 eb4 hb6 rb4 A f; dsimp only [Value.cells] at rb4
 have o_b1_b4 : b1 < b4 := by have := row_lt rb1; omega
 have z_B0_b4 := B0.size; rw [eb4] at z_B0_b4
 replace B0 := Below.next B0 hb6; replace rb1 := row_next rb1 hb6
 revert A; refine vla (h:=vla (h:=vW (vS (vR (vlf (h:=vl1 (rowq rb1) (h:=vl4 (rowq rb4) (h:=?_)))))))); intro A f
 refine l_call f rfl rfl rfl (IsCall.mk' (cap := []) rfl rfl rfl) (pl rfl) (lBin_any _ y.lo y.ln y.lc y.ls x pv (hy.below B0).lists hord) ?_
 clear f A
 rintro _ W7 ⟨⟨i, b, rfl, hA⟩, hb8⟩
 refine ⟨_, rfl, ?_⟩
 intro A f
 replace B0 := Below.next B0 hb8; replace rb1 := row_next rb1 hb8; replace rb4 := row_next rb4 hb8
 revert A; refine vle (h:=vle (h:=vla (h:=vla (h:=vW (vE ?_))))); intro A f
 refine x_ret2 f rfl rfl rfl ?_
 exact ⟨⟨i, b, rfl, hA⟩, B0⟩
instance aheadDec (a b : Ls) : Decidable (aheadL a b) := by unfold aheadL; infer_instance
def setLs (l : List Ls) (x : Ls) : List Ls :=
 l.filter (fun a => decide (aheadL a x)) ++ ((if x.pages.length = 0 then [] else [x]) ++ l.filter (fun a => decide (aheadL x a)))
def RiseP (l : List Ls) : Prop := l.Pairwise aheadL
theorem riseP_of {ls : List Lc} (h : RiseL ls) : RiseP (ls.map (·.l)) := by
 unfold RiseP
 rw [List.pairwise_map, List.pairwise_iff_getElem]
 intro i j hi hj hij
 have := rise_two h (j - i - 1) i (by omega)
 rw [show i + (j - i - 1) + 1 = j by omega] at this
 simpa [List.getD_eq_getElem?_getD, hi, hj] using this
theorem ahead_asymm {a b : Ls} (h : aheadL a b) : ¬ aheadL b a := by unfold aheadL at *; omega
theorem ahead_same {a b c : Ls} (h : a.c = b.c ∧ a.z = b.z ∧ a.t = b.t) : (aheadL a c ↔ aheadL b c) ∧ (aheadL c a ↔ aheadL c b) := by
 unfold aheadL
 omega
theorem ahead_three (a b : Ls) : aheadL a b ∨ aheadL b a ∨ (a.c = b.c ∧ a.z = b.z ∧ a.t = b.t) := by
 unfold aheadL
 omega
theorem filter_none {α : Type} {p : α → Bool} {l : List α} (h : ∀ a ∈ l, p a = false) : l.filter p = [] := by
 rw [List.filter_eq_nil_iff]
 intro a ha
 rw [h a ha]
 simp
theorem getD_take_mem {l : List Ls} {i : Nat} {a : Ls} (h : a ∈ l.take i) : ∃ j, j < i ∧ j < l.length ∧ l.getD j .zero = a := by
 obtain ⟨j, hj, rfl⟩ := List.getElem_of_mem h
 rw [List.length_take] at hj
 refine ⟨j, by omega, by omega, ?_⟩
 rw [List.getElem_take, List.getD_eq_getElem?_getD, List.getElem?_eq_getElem (by omega)]
 rfl
theorem getD_drop_mem {l : List Ls} {i : Nat} {a : Ls} (h : a ∈ l.drop i) : ∃ j, i ≤ j ∧ j < l.length ∧ l.getD j .zero = a := by
 obtain ⟨j, hj, rfl⟩ := List.getElem_of_mem h
 rw [List.length_drop] at hj
 refine ⟨i + j, by omega, by omega, ?_⟩
 rw [List.getElem_drop, List.getD_eq_getElem?_getD, List.getElem?_eq_getElem (by omega)]
 rfl
theorem rise_lt {l : List Ls} (h : RiseP l) {i j : Nat} (hij : i < j) (hj : j < l.length) : aheadL (l.getD i .zero) (l.getD j .zero) := by
 unfold RiseP at h
 rw [List.pairwise_iff_getElem] at h
 have := h i j (by omega) hj hij
 simpa [List.getD_eq_getElem?_getD, hj, show i < l.length by omega] using this
theorem at_split {l : List Ls} (hr : RiseP l) {x : Ls} {i : Nat} {b : Bool} (h : AtL l x i b) :
    l.filter (fun a => decide (aheadL a x)) = l.take i ∧ l.filter (fun a => decide (aheadL x a)) = l.drop (i + (if b = true then 1 else 0)) := by
 obtain ⟨h1, h2, h3, h4⟩ := h
 have e0 : l = l.take i ++ l.drop i := (List.take_append_drop i l).symm
 constructor
 ·conv => lhs; rw [e0]
  rw [List.filter_append, filter_none (l := l.drop i), List.append_nil, List.filter_eq_self]
  ·intro a ha
   obtain ⟨j, hj, _, rfl⟩ := getD_take_mem ha
   exact decide_eq_true (h2 j hj)
  intro a ha
  obtain ⟨j, hj, hl, rfl⟩ := getD_drop_mem ha
  exact decide_eq_false (h3 j hj hl)
 have e1 : l = l.take (i + (if b = true then 1 else 0)) ++ l.drop (i + (if b = true then 1 else 0)) := (List.take_append_drop _ l).symm
 conv => lhs; rw [e1]
 rw [List.filter_append, filter_none (l := l.take _), List.nil_append, List.filter_eq_self]
 ·intro a ha
  obtain ⟨j, hj, hl, rfl⟩ := getD_drop_mem ha
  refine decide_eq_true ?_
  cases b with
  | true =>
   obtain ⟨g1, g2⟩ := h4.1 rfl
   exact (ahead_same g2).1.1 (rise_lt hr (by simp at hj; omega) hl)
  | false =>
   have hj' : i ≤ j := by simpa using hj
   rcases ahead_three (l.getD j .zero) x with g | g | g
   ·exact absurd g (h3 j hj' hl)
   ·exact g
   by_cases e : j = i
   ·subst e
    exact absurd (h4.2 ⟨hl, g⟩) (by simp)
   have := rise_lt hr (show i < j by omega) hl
   exact absurd ((ahead_same g).2.1 this) (h3 i (Nat.le_refl _) (by omega))
 intro a ha
 obtain ⟨j, hj, hl, rfl⟩ := getD_take_mem ha
 refine decide_eq_false ?_
 by_cases e : j < i
 ·exact ahead_asymm (h2 j e)
 cases b with
 | true =>
  have : j = i := by simp at hj; omega
  subst this
  obtain ⟨g1, g2⟩ := h4.1 rfl
  intro g
  have := (ahead_same g2).2.1 g
  unfold aheadL at this
  omega
 | false => simp at hj; omega
theorem setLs_at {l : List Ls} (hr : RiseP l) {x : Ls} {i : Nat} {b : Bool} (h : AtL l x i b) :
    setLs l x = (if x.pages.length = 0 then (if b = true then l.eraseIdx i else l) else (if b = true then l.eraseIdx i else l).take i ++ x :: (if b = true then l.eraseIdx i else l).drop i) := by
 obtain ⟨e1, e2⟩ := at_split hr h
 unfold setLs
 rw [e1, e2]
 have hi := h.1
 cases b with
 | true =>
  have hb := (h.2.2.2.1 rfl).1
  simp only [if_true]
  have e3 : l.eraseIdx i = l.take i ++ l.drop (i + 1) := List.eraseIdx_eq_take_drop_succ l i
  have hl : (l.take i).length = i := by simp; omega
  rw [e3]
  by_cases hp : x.pages.length = 0
  ·rw [if_pos hp, if_pos hp]; rfl
  rw [if_neg hp, if_neg hp, List.take_left' hl, List.drop_left' hl]
  rfl
 | false =>
  simp only [Bool.false_eq_true, if_false, Nat.add_zero]
  by_cases hp : x.pages.length = 0
  ·rw [if_pos hp, if_pos hp, List.nil_append, List.take_append_drop]
  rw [if_neg hp, if_neg hp]; rfl
def lsPages (l : List Ls) (x : Ls) : List Int := ((l.find? fun a => decide (a.c = x.c ∧ a.z = x.z ∧ a.t = x.t)).map (·.pages)).getD []
theorem lsPages_at {l : List Ls} (hr : RiseP l) {x : Ls} {i : Nat} {b : Bool} (h : AtL l x i b) : lsPages l x = if b = true then (l.getD i .zero).pages else [] := by
 have hno : ∀ a ∈ l.take i, ¬ (a.c = x.c ∧ a.z = x.z ∧ a.t = x.t) := fun a ha g => by
  obtain ⟨j, hj, _, rfl⟩ := getD_take_mem ha
  have := (ahead_same g).1.1 (h.2.1 j hj)
  unfold aheadL at this
  omega
 have e1 : (l.take i).find? (fun a => decide (a.c = x.c ∧ a.z = x.z ∧ a.t = x.t)) = none := by
  rw [List.find?_eq_none]
  intro a ha
  simpa using hno a ha
 unfold lsPages
 have e0 : l.find? (fun a => decide (a.c = x.c ∧ a.z = x.z ∧ a.t = x.t)) = (l.drop i).find? (fun a => decide (a.c = x.c ∧ a.z = x.z ∧ a.t = x.t)) := by
  conv => lhs; rw [← List.take_append_drop i l]
  rw [List.find?_append, e1, Option.none_or]
 rw [e0]
 cases b with
 | true =>
  obtain ⟨g1, g2⟩ := h.2.2.2.1 rfl
  have e2 : l.drop i = l.getD i .zero :: l.drop (i + 1) := by
   rw [List.getD_eq_getElem?_getD, List.getElem?_eq_getElem g1]
   exact (List.getElem_cons_drop g1).symm
  rw [e2, List.find?_cons_of_pos (by simpa using g2)]
  rfl
 | false =>
  have e2 : (l.drop i).find? (fun a => decide (a.c = x.c ∧ a.z = x.z ∧ a.t = x.t)) = none := by
   rw [List.find?_eq_none]
   intro a ha
   obtain ⟨j, hj, hl, rfl⟩ := getD_drop_mem ha
   intro g
   have g' := of_decide_eq_true g
   by_cases e : j = i
   ·subst e
    exact absurd (h.2.2.2.2 ⟨hl, g'⟩) (by simp)
   exact h.2.2.1 i (Nat.le_refl _) (by omega) ((ahead_same g').2.1 (rise_lt hr (by omega) hl))
  rw [e2]
  rfl
theorem lists_few {H : Hp} (h : LssOk H) (hc : H.cpus ≤ 4) : H.lists.length ≤ 24 := by
 have key : ∀ i, i < H.lists.length → (i : Int) ≤ (H.lists.getD i .zero).c * 6 + (H.lists.getD i .zero).z * 3 + (H.lists.getD i .zero).t := by
  intro i
  induction i with
  | zero =>
   intro hi
   have k := h.ok 0 hi
   have k1 := k.c
   have k2 := k.z
   have k3 := k.t
   unfold typeOk at k3
   omega
  | succ i ih =>
   intro hi
   have g := ih (by omega)
   have k := h.ok i (by omega)
   have m := h.ok (i + 1) hi
   have o := h.ord (i + 1) (by omega) hi
   rw [show i + 1 - 1 = i by omega] at o
   unfold aheadL at o
   have k2 := k.z
   have k3 := k.t
   have m2 := m.z
   have m3 := m.t
   unfold typeOk at k3 m3
   omega
 by_cases e : H.lists.length ≤ 24
 ·exact e
 have k := key 24 (by omega)
 have m := h.ok 24 (by omega)
 have m1 := m.c
 have m2 := m.z
 have m3 := m.t
 unfold typeOk at m3
 omega
structure Ex (P : Nat → Prop) (w w' : World) : Prop where
 os : w'.os = w.os
 tape : w'.tape = w.tape
 output : w'.output = w.output
 size : w.heap.size ≤ w'.heap.size
 block : ∀ k, k < w.heap.size → ¬ P k → w'.heap[k]? = w.heap[k]?
theorem Ex.trans {P : Nat → Prop} {w w' w'' : World} (h : Ex P w w') (k : Ex P w' w'') : Ex P w w'' :=
 ⟨k.os.trans h.os, k.tape.trans h.tape, k.output.trans h.output, Nat.le_trans h.size k.size, fun j hj hp => (k.block j (Nat.lt_of_lt_of_le hj h.size) hp).trans (h.block j hj hp)⟩
theorem Ex.of_below {P : Nat → Prop} {w w' : World} (h : Below w.heap.size w w') : Ex P w w' := ⟨h.os, h.tape, h.output, h.size, fun k hk _ => h.block k hk⟩
theorem Ex.of_but {P : Nat → Prop} {b : Nat} {w w' : World} (h : But b w w') (hp : P b) : Ex P w w' := ⟨h.os, h.tape, h.output, h.size, fun k hk hn => h.block k hk (fun e => hn (e ▸ hp))⟩
theorem Ex.of_bu2 {P : Nat → Prop} {g z : Nat} {w w' : World} (h : Bu2 g z w w') (hg : P g) (hz : P z) : Ex P w w' := ⟨h.os, h.tape, h.output, h.size, fun k hk hn => h.block k hk (fun e => hn (e ▸ hg)) (fun e => hn (e ▸ hz))⟩
theorem Ex.new {P : Nat → Prop} {b : Nat} {w w' w'' : World} (h : Ex P w w') (hb : But b w' w'') (hn : w.heap.size ≤ b) : Ex P w w'' :=
 ⟨hb.os.trans h.os, hb.tape.trans h.tape, hb.output.trans h.output, Nat.le_trans h.size hb.size, fun k hk h1 => (hb.block k (Nat.lt_of_lt_of_le hk h.size) (by omega)).trans (h.block k hk h1)⟩
theorem Ex.row {P : Nat → Prop} {w w' : World} {b : Nat} {x : Obj} (h : Ex P w w') (hr : w.heap[b]? = some x) (hp : ¬ P b) : w'.heap[b]? = some x := by
 rw [h.block b (Array.getElem?_eq_some_iff.1 hr).1 hp]; exact hr
end Go.Proofs.YtjohdbiipeedkaaGreatDoor
namespace Go.Proofs.YtjohdbiipeedkaaGreatDoor.Kit
def isT (o t : Int) (b : Bk) : Bool := decide (b.o = o ∧ b.t = t)
def fidx (g : Bk → Bool) : List Bk → Int
 | [] => -1
 | b :: l => if g b = true then 0 else if fidx g l < 0 then -1 else fidx g l + 1
theorem fidx_none {g : Bk → Bool} {l : List Bk} (h : ∀ j, j < l.length → g (l.getD j .zero) = false) : fidx g l = -1 := by
 induction l with
 | nil => rfl
 | cons b l ih =>
  have h0 : g b = false := by simpa using h 0 (by simp)
  have := ih (fun j hj => by simpa using h (j + 1) (by simpa using hj))
  unfold fidx
  rw [h0, this]
  rfl
theorem fidx_some {g : Bk → Bool} {l : List Bk} {k : Nat} (hk : k < l.length) (h1 : g (l.getD k .zero) = true) (h2 : ∀ j, j < k → g (l.getD j .zero) = false) : fidx g l = k := by
 induction l generalizing k with
 | nil => simp at hk
 | cons b l ih =>
  cases k with
  | zero =>
   have h0 : g b = true := by simpa using h1
   unfold fidx
   rw [if_pos h0]; rfl
  | succ k =>
   have h0 : g b = false := by simpa using h2 0 (by omega)
   have := ih (k := k) (by simpa using hk) (by simpa using h1) (fun j hj => by simpa using h2 (j + 1) (by omega))
   unfold fidx
   rw [h0, this, if_neg (by simp), if_neg (by omega)]
   omega
def upI (l : List Bk) (t : Int) : Nat → Int → Int
 | 0, _ => -1
 | n + 1, o => if 0 ≤ fidx (isT o t) l then fidx (isT o t) l else upI l t n (o + 1)
def dnI (l : List Bk) (u v o : Int) : Nat → Int
 | 0 => -1
 | n + 1 => if 0 ≤ fidx (isT (o + n) u) l then fidx (isT (o + n) u) l else if 0 ≤ fidx (isT (o + n) v) l then fidx (isT (o + n) v) l else dnI l u v o n
def other1 (t : Int) : Int := if t = 2 then 0 else 2
def other2 (t : Int) : Int := if t = 1 then 0 else 1
def chooseI (l : List Bk) (o t : Int) : Int := if 0 ≤ upI l t (5 - o).toNat o then upI l t (5 - o).toNat o else dnI l (other1 t) (other2 t) o (5 - o).toNat
def halvesL (a t o : Int) : Nat → List Bk
 | 0 => []
 | m + 1 => halvesL a t o m ++ [⟨a + pw (o + m), o + m, t⟩]
theorem pw_succ (o : Int) (h : 0 ≤ o) : pw (o + 1) = 2 * pw o := by
 unfold pw
 have e : (o + 1).toNat = o.toNat + 1 := by omega
 rw [e, Nat.pow_succ]
 omega
def putH (a t o : Int) : Nat → List Bk → List Bk
 | 0, l => l
 | m + 1, l => putH a t o m (addB l ⟨a + pw (o + m), o + m, t⟩)
theorem halves_mem {a t o : Int} {m : Nat} {x : Bk} (h : x ∈ halvesL a t o m) : ∃ k : Nat, k < m ∧ x = ⟨a + pw (o + k), o + k, t⟩ := by
 induction m with
 | zero => simp [halvesL] at h
 | succ m ih =>
  unfold halvesL at h
  rcases List.mem_append.1 h with h | h
  ·obtain ⟨k, hk, e⟩ := ih h
   exact ⟨k, by omega, e⟩
  exact ⟨m, by omega, by simpa using h⟩
theorem pw_mono {i j : Int} (h : i ≤ j) : pw i ≤ pw j := by
 unfold pw
 exact Int.ofNat_le.2 (Nat.pow_le_pow_right (by decide) (by omega))
theorem halves_ahead (a t o : Int) (ho : 0 ≤ o) (m : Nat) : (halvesL a t o m).Pairwise Ahead := by
 induction m with
 | zero => exact List.Pairwise.nil
 | succ m ih =>
  unfold halvesL
  refine List.pairwise_append.2 ⟨ih, List.pairwise_singleton _ _, ?_⟩
  intro x hx y hy
  obtain ⟨k, hk, rfl⟩ := halves_mem hx
  have hy' : y = ⟨a + pw (o + m), o + m, t⟩ := by simpa using hy
  subst hy'
  refine ⟨?_, fun hb => ?_⟩
  ·have h1 := pw_succ (o + k) (by omega)
   have h2 := pw_mono (i := o + k + 1) (j := o + m) (by omega)
   show a + pw (o + k) + pw (o + k) ≤ a + pw (o + m)
   omega
  have h3 : o + (k : Int) = o + m := hb.2.1
  omega
theorem upper_odd {a k bo : Int} (hb : ordOk bo) (h0 : 0 ≤ k) (h1 : k < bo) (ha : a % pw bo = 0) : (a + pw k) % pw (k + 1) ≠ 0 := by
 rw [pw_succ k h0]
 rcases ord_cases hb with ⟨e, p⟩ | ⟨e, p⟩ | ⟨e, p⟩ | ⟨e, p⟩ | ⟨e, p⟩ <;> rw [p] at ha <;>
  rcases ord_cases (o := k) ⟨h0, by obtain ⟨_, _⟩ := hb; omega⟩ with ⟨e', p'⟩ | ⟨e', p'⟩ | ⟨e', p'⟩ | ⟨e', p'⟩ | ⟨e', p'⟩ <;> rw [p'] <;> omega
theorem take_ahead {f z : Int} (p q : List Bk) (b : Bk) (t o : Int) (ho : 0 ≤ o) (hi : AllIn f z (p ++ b :: q)) (hr : (p ++ b :: q).Pairwise Ahead) :
    (p ++ halvesL b.a t o (b.o - o).toNat ++ q).Pairwise Ahead := by
 obtain ⟨h1, h2, h3⟩ := List.pairwise_append.1 hr
 obtain ⟨h4, h5⟩ := List.pairwise_cons.1 h2
 obtain ⟨⟨hbo, hba, hbz, hal⟩, _⟩ := hi b (by simp)
 refine List.pairwise_append.2 ⟨List.pairwise_append.2 ⟨h1, halves_ahead _ _ _ ho _, ?_⟩, h5, ?_⟩
 ·intro x hx y hy
  obtain ⟨k, hk, rfl⟩ := halves_mem hy
  have hxb := (h3 x hx b (by simp)).1
  have hp := pw_pos (o + k)
  have hpx := pw_pos x.o
  refine ⟨?_, fun hb => ?_⟩
  ·show x.a + pw x.o ≤ b.a + pw (o + k)
   omega
  have h6 : x.a + pw (o + k) = b.a + pw (o + k) := hb.2.2.1
  omega
 intro x hx y hy
 rcases List.mem_append.1 hx with hx | hx
 ·exact h3 x hx y (by simp [hy])
 obtain ⟨k, hk, rfl⟩ := halves_mem hx
 have hby := (h4 y hy).1
 have h6 := pw_succ (o + k) (by omega)
 have h7 := pw_mono (i := o + k + 1) (j := b.o) (by omega)
 refine ⟨?_, fun hb => ?_⟩
 ·show b.a + pw (o + k) + pw (o + k) ≤ y.a
  omega
 have h8 : o + (k : Int) = y.o := hb.2.1
 have h9 : (b.a + pw (o + k)) % pw (y.o + 1) = 0 := hb.2.2.2
 rw [← h8] at h9
 exact upper_odd hbo (by omega) (by omega) hal h9
theorem take_in {f z : Int} (p q : List Bk) (b : Bk) (t o : Int) (ho : 0 ≤ o) (ht : typeOk t) (hz : z % 16 = 0) (hi : AllIn f z (p ++ b :: q)) :
    AllIn f z (p ++ halvesL b.a t o (b.o - o).toNat ++ q) := by
 intro x hx
 obtain ⟨⟨hbo, hba, hbz, hal⟩, _⟩ := hi b (by simp)
 rcases List.mem_append.1 hx with hx | hx
 ·rcases List.mem_append.1 hx with hx | hx
  ·exact hi x (by simp [hx])
  obtain ⟨k, hk, rfl⟩ := halves_mem hx
  have hK : o + (k : Int) < b.o := by omega
  have hK0 : 0 ≤ o + (k : Int) := by omega
  obtain ⟨K, e⟩ : ∃ K, o + (k : Int) = K := ⟨_, rfl⟩
  rw [e] at hK hK0 ⊢
  have hb4 := hbo.2
  have hK4 : K ≤ 4 := by omega
  refine ⟨⟨⟨hK0, hK4⟩, ?_, ?_, ?_⟩, ht⟩
  ·show f ≤ b.a + pw K
   have := pw_pos K
   omega
  ·show b.a + pw K ≤ z - 1
   rcases ord_cases hbo with ⟨e1, e2⟩ | ⟨e1, e2⟩ | ⟨e1, e2⟩ | ⟨e1, e2⟩ | ⟨e1, e2⟩ <;> rw [e2] at hal <;>
    rcases ord_cases (o := K) ⟨hK0, hK4⟩ with ⟨e3, e4⟩ | ⟨e3, e4⟩ | ⟨e3, e4⟩ | ⟨e3, e4⟩ | ⟨e3, e4⟩ <;> rw [e4] <;> omega
  show (b.a + pw K) % pw K = 0
  rcases ord_cases hbo with ⟨e1, e2⟩ | ⟨e1, e2⟩ | ⟨e1, e2⟩ | ⟨e1, e2⟩ | ⟨e1, e2⟩ <;> rw [e2] at hal <;>
   rcases ord_cases (o := K) ⟨hK0, hK4⟩ with ⟨e3, e4⟩ | ⟨e3, e4⟩ | ⟨e3, e4⟩ | ⟨e3, e4⟩ | ⟨e3, e4⟩ <;> rw [e4] <;> omega
 exact hi x (by simp [hx])
def setR (ty : List Int) (F : Nat) (t : Int) : Nat → List Int
 | 0 => ty
 | c + 1 => (setR ty F t c).set (F + c) t
theorem setR_len (ty : List Int) (F : Nat) (t : Int) (c : Nat) : (setR ty F t c).length = ty.length := by
 induction c with
 | zero => rfl
 | succ c ih => simp [setR, ih]
def stealB (f F L t : Int) (b : Bk) : Bk := if F ≤ (b.a - f) / 8 ∧ (b.a - f) / 8 ≤ L then ⟨b.a, b.o, t⟩ else b
theorem stealB_a (f F L t : Int) (b : Bk) : (stealB f F L t b).a = b.a := by unfold stealB; split <;> rfl
theorem stealB_o (f F L t : Int) (b : Bk) : (stealB f F L t b).o = b.o := by unfold stealB; split <;> rfl
def stealK (f F L t : Int) (l : List Bk) (i : Nat) : List Bk := (l.take i).map (stealB f F L t) ++ l.drop i
theorem stealK_0 (f F L t : Int) (l : List Bk) : stealK f F L t l 0 = l := by simp [stealK]
theorem stealK_all (f F L t : Int) (l : List Bk) : stealK f F L t l l.length = l.map (stealB f F L t) := by simp [stealK]
theorem stealK_len (f F L t : Int) (l : List Bk) (i : Nat) : (stealK f F L t l i).length = l.length := by simp [stealK]; omega
theorem stealK_at (f F L t : Int) {l : List Bk} {i : Nat} (h : i < l.length) : (stealK f F L t l i).getD i .zero = l.getD i .zero := by
 unfold stealK
 rw [List.getD_eq_getElem?_getD, List.getD_eq_getElem?_getD, List.getElem?_append_right (by simp; omega)]
 simp [List.getElem?_drop, Nat.min_eq_left (Nat.le_of_lt h)]
theorem stealK_succ (f F L t : Int) {l : List Bk} {i : Nat} (h : i < l.length) {b : Bk} (hb : l.getD i .zero = b) : stealK f F L t l (i + 1) = (stealK f F L t l i).set i (stealB f F L t b) := by
 have hb' : l[i] = b := by rw [List.getD_eq_getElem?_getD, List.getElem?_eq_getElem h] at hb; exact hb
 unfold stealK
 rw [List.take_succ_eq_append_getElem h, List.map_append, List.set_append_right _ _ (by simp; omega)]
 have e : i - ((l.take i).map (stealB f F L t)).length = 0 := by simp; omega
 rw [e, List.drop_eq_getElem_cons h, List.set_cons_zero, hb']
 simp
theorem steal_ahead (f F L t : Int) {l : List Bk} (h : l.Pairwise Ahead) : (l.map (stealB f F L t)).Pairwise Ahead := by
 refine List.pairwise_map.2 (h.imp ?_)
 intro x y hxy
 unfold Ahead besideP at *
 rw [stealB_a, stealB_o, stealB_a, stealB_o]
 exact hxy
theorem steal_in {f z F L t : Int} {l : List Bk} (ht : typeOk t) (h : AllIn f z l) : AllIn f z (l.map (stealB f F L t)) := by
 intro b hb
 obtain ⟨x, hx, rfl⟩ := List.mem_map.1 hb
 obtain ⟨h1, h2⟩ := h x hx
 rw [stealB_a, stealB_o]
 refine ⟨h1, ?_⟩
 unfold stealB
 split
 ·exact ht
 exact h2
theorem setR_ok {ty : List Int} {F : Nat} {t : Int} (ht : typeOk t) (h : ∀ i, i < ty.length → typeOk (ty.getD i 0)) (c : Nat) : ∀ i, i < (setR ty F t c).length → typeOk ((setR ty F t c).getD i 0) := by
 induction c with
 | zero => exact h
 | succ c ih =>
  intro i hi
  unfold setR at hi ⊢
  rw [List.length_set] at hi
  rw [List.getD_eq_getElem?_getD, List.getElem?_set]
  split
  ·split
   ·exact ht
   exact absurd (by omega : F + c < (setR ty F t c).length) ‹_›
  have := ih i hi
  rwa [List.getD_eq_getElem?_getD] at this
theorem steal_may {z : Zn} (h : ZMay z) (F : Nat) (L t : Int) (c : Nat) (ht : typeOk t) : ZMay ⟨z.f, z.t, z.free.map (stealB z.f F L t), setR z.types F t c⟩ := by
 obtain ⟨h1, h2⟩ := free_iff.1 h.free
 exact ⟨h.new, by rw [setR_len]; exact h.len, setR_ok ht h.ty c, free_iff.2 ⟨steal_in ht h1, steal_ahead _ _ _ _ h2⟩⟩
theorem take_may {z : Zn} (h : ZMay z) (p q : List Bk) (b : Bk) (t o : Int) (ho : 0 ≤ o) (ht : typeOk t) (e : z.free = p ++ b :: q) : ZMay ⟨z.f, z.t, p ++ halvesL b.a t o (b.o - o).toNat ++ q, z.types⟩ := by
 have hf := h.free
 rw [e] at hf
 obtain ⟨h1, h2⟩ := free_iff.1 hf
 exact ⟨h.new, h.len, h.ty, free_iff.2 ⟨take_in p q b t o ho ht h.new.2.2.2.2 h1, take_ahead p q b t o ho h1 h2⟩⟩
def grpF (z : Zn) (b : Bk) : Int := (b.a - z.f) / 8
def grpL (z : Zn) (b : Bk) : Int := (b.a + pw b.o - 1 - z.f) / 8
def steals (b : Bk) (t : Int) : Prop := b.t ≠ t ∧ 2 ≤ b.o
instance (b : Bk) (t : Int) : Decidable (steals b t) := by unfold steals; infer_instance
def stolenZ (z : Zn) (b : Bk) (t : Int) : Zn := ⟨z.f, z.t, z.free.map (stealB z.f (grpF z b) (grpL z b) t), setR z.types (grpF z b).toNat t ((grpL z b).toNat + 1 - (grpF z b).toNat)⟩
def takeZ (z : Zn) (o t : Int) (i : Nat) : Zn :=
 let b := z.free.getD i .zero
 if steals b t then
  let s := stolenZ z b t
  ⟨z.f, z.t, s.free.take i ++ (halvesL b.a t o (b.o - o).toNat ++ s.free.drop (i + 1)), s.types⟩
 else ⟨z.f, z.t, z.free.take i ++ (halvesL b.a b.t o (b.o - o).toNat ++ z.free.drop (i + 1)), z.types⟩
theorem fidx_in {g : Bk → Bool} {l : List Bk} (h : 0 ≤ fidx g l) : ∃ i : Nat, fidx g l = i ∧ i < l.length ∧ g (l.getD i .zero) = true := by
 induction l with
 | nil => simp [fidx] at h
 | cons b l ih =>
  by_cases hb : g b = true
  ·exact ⟨0, by simp [fidx, hb], by simp, by simpa using hb⟩
  by_cases hn : fidx g l < 0
  ·simp [fidx, hb, hn] at h
  obtain ⟨i, e, hi, hg⟩ := ih (by omega)
  refine ⟨i + 1, ?_, by simpa using hi, by simpa using hg⟩
  show (if g b = true then (0 : Int) else if fidx g l < 0 then -1 else fidx g l + 1) = _
  rw [if_neg hb, if_neg hn, e]
  rfl
theorem upI_in {l : List Bk} {t : Int} {n : Nat} {o : Int} (h : 0 ≤ upI l t n o) : ∃ i : Nat, upI l t n o = i ∧ i < l.length ∧ o ≤ (l.getD i .zero).o := by
 induction n generalizing o with
 | zero => simp [upI] at h
 | succ n ih =>
  unfold upI at h ⊢
  split at h
  ·rename_i hf
   rw [if_pos hf]
   obtain ⟨i, e, hi, hg⟩ := fidx_in hf
   have := (of_decide_eq_true hg).1
   exact ⟨i, e, hi, by omega⟩
  rename_i hf
  rw [if_neg hf]
  obtain ⟨i, e, hi, hg⟩ := ih h
  exact ⟨i, e, hi, by omega⟩
theorem dnI_in {l : List Bk} {u v o : Int} {n : Nat} (h : 0 ≤ dnI l u v o n) : ∃ i : Nat, dnI l u v o n = i ∧ i < l.length ∧ o ≤ (l.getD i .zero).o := by
 induction n with
 | zero => simp [dnI] at h
 | succ n ih =>
  unfold dnI at h ⊢
  split at h
  ·rename_i hf
   rw [if_pos hf]
   obtain ⟨i, e, hi, hg⟩ := fidx_in hf
   have := (of_decide_eq_true hg).1
   exact ⟨i, e, hi, by omega⟩
  rename_i hf
  rw [if_neg hf]
  split at h
  ·rename_i hk
   rw [if_pos hk]
   obtain ⟨i, e, hi, hg⟩ := fidx_in hk
   have := (of_decide_eq_true hg).1
   exact ⟨i, e, hi, by omega⟩
  rename_i hk
  rw [if_neg hk]
  exact ih h
theorem choose_in {l : List Bk} {o t : Int} (h : 0 ≤ chooseI l o t) : ∃ i : Nat, chooseI l o t = i ∧ i < l.length ∧ o ≤ (l.getD i .zero).o := by
 unfold chooseI at h ⊢
 split at h
 ·rename_i hu
  rw [if_pos hu]
  exact upI_in hu
 rename_i hu
 rw [if_neg hu]
 exact dnI_in h
theorem map_getD (f : Bk → Bk) {l : List Bk} {i : Nat} (h : i < l.length) : (l.map f).getD i .zero = f (l.getD i .zero) := by
 rw [List.getD_eq_getElem?_getD, List.getD_eq_getElem?_getD, List.getElem?_map, List.getElem?_eq_getElem h]
 rfl
theorem cut_at (l : List Bk) {i : Nat} (h : i < l.length) : l = l.take i ++ l.getD i .zero :: l.drop (i + 1) := by
 rw [List.getD_eq_getElem?_getD, List.getElem?_eq_getElem h]
 simp
theorem stolen_self {z : Zn} {b : Bk} (t : Int) : stealB z.f (grpF z b) (grpL z b) t b = ⟨b.a, b.o, t⟩ := by
 have hp := pw_pos b.o
 unfold stealB grpF grpL
 rw [if_pos ⟨Int.le_refl _, by omega⟩]
theorem takeZ_may {z : Zn} (h : ZMay z) {o t : Int} (ho : 0 ≤ o) (ht : typeOk t) {i : Nat} (hi : i < z.free.length) (hb : typeOk (z.free.getD i .zero).t) (hf : z.f ≤ (z.free.getD i .zero).a) : ZMay (takeZ z o t i) := by
 unfold takeZ
 dsimp only
 split
 ·have e : ((grpF z (z.free.getD i .zero)).toNat : Int) = grpF z (z.free.getD i .zero) := Int.toNat_of_nonneg (by unfold grpF; omega)
  have hs := steal_may h (grpF z (z.free.getD i .zero)).toNat (grpL z (z.free.getD i .zero)) t ((grpL z (z.free.getD i .zero)).toNat + 1 - (grpF z (z.free.getD i .zero)).toNat) ht
  rw [e] at hs
  have hc := cut_at (z.free.map (stealB z.f (grpF z (z.free.getD i .zero)) (grpL z (z.free.getD i .zero)) t)) (i := i) (by simpa using hi)
  rw [map_getD _ hi, stolen_self] at hc
  have := take_may hs _ _ _ t o ho ht hc
  simpa [stolenZ] using this
 have := take_may h _ _ _ (z.free.getD i .zero).t o ho hb (cut_at z.free hi)
 simpa using this
end Go.Proofs.YtjohdbiipeedkaaGreatDoor.Kit
namespace Go.Proofs.YtjohdbiipeedkaaGreatDoor
open Go.Proofs.YtjohdbiipeedkaaGreatDoor.Kit
def takeGH (H : Hp) (z : Nat) (o fl : Int) : Option (Hp × Int) :=
 if freeN (H.zones.getD z ⟨0, 0, [], []⟩).free - pw o < heldH H z fl then none
 else if chooseI (H.zones.getD z ⟨0, 0, [], []⟩).free o (typeF fl) < 0 then none
 else some ({ H with zones := H.zones.set z (takeZ (H.zones.getD z ⟨0, 0, [], []⟩) o (typeF fl) (chooseI (H.zones.getD z ⟨0, 0, [], []⟩).free o (typeF fl)).toNat) },
  ((H.zones.getD z ⟨0, 0, [], []⟩).free.getD (chooseI (H.zones.getD z ⟨0, 0, [], []⟩).free o (typeF fl)).toNat .zero).a)
def moreH : Nat → Hp → Nat → Int → List Int → Hp × List Int
 | 0, H, _, _, l => (H, l)
 | n + 1, H, z, fl, l =>
  match takeGH H z 0 fl with
  | none => (H, l)
  | some (G, p) => moreH n G z fl (l ++ [p])
def singleH (H : Hp) (cpu : Int) (z : Nat) (fl : Int) : Option (Hp × Int) :=
 if 0 < (lsPages H.lists ⟨cpu, (z : Nat), typeF fl, []⟩).length then
  some ({ H with lists := setLs H.lists ⟨cpu, (z : Nat), typeF fl, (lsPages H.lists ⟨cpu, (z : Nat), typeF fl, []⟩).take ((lsPages H.lists ⟨cpu, (z : Nat), typeF fl, []⟩).length - 1)⟩ },
   (lsPages H.lists ⟨cpu, (z : Nat), typeF fl, []⟩).getD ((lsPages H.lists ⟨cpu, (z : Nat), typeF fl, []⟩).length - 1) 0)
 else
  match takeGH H z 0 fl with
  | none => none
  | some (G, p) => some ({ (moreH 3 G z fl []).1 with lists := setLs (moreH 3 G z fl []).1.lists ⟨cpu, (z : Nat), typeF fl, (moreH 3 G z fl []).2⟩ }, p)
def tryH (H : Hp) (cpu : Int) (z : Nat) (o fl : Int) : Option (Hp × Int) := if o = 0 then singleH H cpu z fl else takeGH H z o fl
def findH (H : Hp) (cpu o fl : Int) : Option (Hp × Int) :=
 if fl % 2 = 1 then tryH H cpu 0 o fl else
  match tryH H cpu 1 o fl with
  | some r => some r
  | none => tryH H cpu 0 o fl
theorem takeH_some {H G : Hp} {z : Nat} {o fl p : Int} (h : takeGH H z o fl = some (G, p)) :
    ¬ freeN (H.zones.getD z ⟨0, 0, [], []⟩).free - pw o < heldH H z fl ∧ ∃ i : Nat, chooseI (H.zones.getD z ⟨0, 0, [], []⟩).free o (typeF fl) = i ∧
     G = { H with zones := H.zones.set z (takeZ (H.zones.getD z ⟨0, 0, [], []⟩) o (typeF fl) i) } ∧ p = ((H.zones.getD z ⟨0, 0, [], []⟩).free.getD i .zero).a := by
 unfold takeGH at h
 by_cases h1 : freeN (H.zones.getD z ⟨0, 0, [], []⟩).free - pw o < heldH H z fl
 ·rw [if_pos h1] at h; cases h
 rw [if_neg h1] at h
 by_cases h2 : chooseI (H.zones.getD z ⟨0, 0, [], []⟩).free o (typeF fl) < 0
 ·rw [if_pos h2] at h; cases h
 rw [if_neg h2] at h
 simp only [Option.some.injEq, Prod.mk.injEq] at h
 exact ⟨h1, _, by omega, h.1.symm, h.2.symm⟩
theorem typeF_ok (f : Int) : typeOk (typeF f) := by
 unfold typeF typeOk
 split
 ·omega
 split <;> omega
end Go.Proofs.YtjohdbiipeedkaaGreatDoor
namespace Go.Proofs.YtjohdbiipeedkaaGreatDoor.Kit
open Go Go.RowKit
section
variable {P : Program} {l : List Oper} {Q : Exit → Act → World → Prop} {S : World → Prop} {eff : List Nat}
theorem sx_heldl {id n : Nat} {o : Oper} {A : Act} {w : World} (S : World → Prop) (eff : List Nat) (hm : P.follows .mixedOrders = true) (hp : peelB .any l n = true) (ho : l[n]? = some o) (hB : lexHB (l.take n).toArray eff = true) (hQ : Blind Q) (hS : S { w with drawn := w.drawn + 1 })
    (h : wpHL P (l.take n) (lastQ P o Q) S eff 0 (l.take n) A { w with drawn := w.drawn + 1 }) : (Code.region id l.toArray true).wp P Q A w := by
 unfold lexHB at hB
 simp only [Bool.and_eq_true] at hB
 have hn : (l.take n).length = n := by
  have := (peel_spec hp).1
  simp; omega
 refine wp_region_peel n o (S := S) hm hp ho ?_
 have hQ' : Blind (lastQ P o Q) := fun c a w d v g => hQ c a w d v g
 have := wpAnyH_lex hB.1 hQ' (l.take n) 0 (Array.replicate (l.take n).toArray.size false) A { w with drawn := w.drawn + 1 } (fun j => by simp) hS (by simpa using hB.2) h
 rw [List.size_toArray, hn] at this
 exact this
variable {A : Act} {N : Nat} {L : List (Nat × Value)} {rest : List Oper} {o : Oper} {w : World} {k : Nat}
theorem h_opR {d : Nat} {R : Value → World → Prop} (f : Fr A N L) (he : memN eff k = true) (hd : o.dst = some d) (hN : Nat.blt d N = true) (hw : wantB l L o = some true) (hr : ∃ v W, (execOp A.eval o).run P w = .ok (.value v) W ∧ R v W)
    (h : ∀ v W, R v W → S W ∧ ∀ A', Fr A' N ((d, v) :: L) → wpHL P l Q S eff (k + 1) rest A' W) : wpHL P l Q S eff k (o :: rest) A w := by
 obtain ⟨v, W, hrun, hR⟩ := hr
 obtain ⟨h1, h2⟩ := h v W hR
 unfold wpHL
 rw [if_pos he, if_pos (f.wanted hw)]
 unfold Oper.wp
 rw [hrun, Oper.upon_value, hd]
 exact ⟨h1, h2 _ (f.put d v (by simpa [Nat.blt_eq] using hN))⟩
theorem x_ret0 {fn : Func} {R : Ending → World → Prop} (f : Fr A N L) (hr : fn.results = #[]) (h : R (.returned (.tuple #[])) w) : bodyPost P fn R .ret A w := by
 refine ⟨f.defs, _, ?_, h⟩
 simp [results, hr]
theorem x_norm0 {fn : Func} {R : Ending → World → Prop} (f : Fr A N L) (hr : fn.results = #[]) (h : R (.returned (.tuple #[])) w) : bodyPost P fn R .normal A w := by
 refine ⟨f.defs, _, ?_, h⟩
 simp [results, hr]
end
theorem append_row {P : Program} (w : World) (base : Nat) (t ty e : TypeId) (i : TypeInfo) (z : Value) (size : Nat) (ht : P.underlying t = some (.slice e)) (hi : P.info? e = some i) (hz : i.zero = some z) (hsz : i.size = size) (hzs : z.cells.size = size)
    (ao : Option Addr) (n cap : Nat) (xs : List Value) (hown : w.ownsRow base e size (.slice ao n cap) n xs) (a : Addr) (m c : Nat) (news : List Value) (hl : news.length = m * size) (hnews : ∀ j v, news[j]? = some v → w.cell? (a.add j) = some v) (h1 : ∀ u ∈ news, u.oneCell' = true)
    (h0 : 0 < m) (hm : n + m ≤ maxLen) (hby : (n + m) * i.bytes ≤ 140737488355328) (hb : base ≤ w.heap.size) :
    ∃ g' cap' W, (Builtin.append_ #[t, t] ty #[.slice ao n cap, .slice (some a) m c]).run P w = .ok (.slice (some ⟨g', 0, none⟩) (n + m) cap') W ∧ W.ownsRow base e size (.slice (some ⟨g', 0, none⟩) (n + m) cap') (n + m) (xs ++ news) ∧
     ((ao = some ⟨g', 0, none⟩ ∧ But g' w W) ∨ (g' = w.heap.size ∧ Below w.heap.size w W)) := by
 have hown' := hown
 rcases hown.2 with ⟨e1, e2⟩ | ⟨g, cap', cur, e1, hbg, hg, hn, hmx, hsc, htk⟩
 ·simp only [Value.slice.injEq] at e1
  obtain ⟨rfl, rfl, rfl⟩ := e1
  have hx : xs = [] := List.eq_nil_of_length_eq_zero (by have := hown.1; simpa using this)
  subst hx
  subst hsz
  have hby' : m * i.bytes ≤ 281474976710656 := by simp only [Nat.zero_add] at hby; omega
  have h63 : (m : Int) ≤ 9223372036854775807 := by simp only [maxLen] at hm; omega
  have hr := run_append_nil (P := P) (w := w) t ty e i z ht hi hz a m c news hl hnews h0 h63 hby'
  have hc1 := grownCap_ge w m 0 e
  have hc2 := grownCap_le_maxLen w m 0 e (by omega)
  have R : Row (w.drew.alloc (.cells (news.toArray ++ Builtin.zeroCells z.cells (grownCap w m 0 e - m)) e)) e i.size w.heap.size (grownCap w m 0 e) (news.toArray ++ Builtin.zeroCells z.cells (grownCap w m 0 e - m)).toList := row_new (by
   simp only [Array.size_append, List.size_toArray, size_zeroCells, hl, hzs]
   rw [← Nat.add_mul]
   congr 1
   omega) hc2
  refine ⟨w.heap.size, grownCap w m 0 e, _, by rw [Nat.zero_add]; exact hr, ?_, .inr ⟨rfl, below_new _ _⟩⟩
  rw [Nat.zero_add, List.nil_append]
  refine R.owns hb hc1 ?_
  simp only [Array.toList_append]
  rw [List.take_append_of_le_length (by simp [hl]), List.take_of_length_le (by simp [hl])]
 simp only [Value.slice.injEq] at e1
 obtain ⟨rfl, _, rfl⟩ := e1
 by_cases hr : n + m ≤ cap
 ·obtain ⟨w', hrun, r1, r2⟩ := run_append_fits (P := P) w base t ty e i size ht hi hsz g n cap xs hown' a m c news hl hnews h1 hr
  exact ⟨g, cap, w', hrun, r1, .inl ⟨rfl, r2.os, r2.tape, r2.output, r2.size, fun k hk hne => r2.block k hk (by intro q; exact hne (by simpa using q))⟩⟩
 obtain ⟨cap', W, cur', hrun, R', ht', hc', hb'⟩ := grow_some (P := P) w t ty e i z size ht hi hz hsz hzs ⟨g, 0, none⟩ n cap xs hown'.1 (hown'.cells rfl) a m c news hl hnews (by omega) hm hby
 exact ⟨w.heap.size, cap', W, hrun, R'.owns hb hc' ht', .inr ⟨rfl, hb'⟩⟩
end Go.Proofs.YtjohdbiipeedkaaGreatDoor.Kit
namespace Go.Proofs.YtjohdbiipeedkaaGreatDoor
open Go Go.RowKit Go.Proofs.YtjohdbiipeedkaaGreatDoor.Kit
structure AwayZ (b : Nat) (y : Hx) : Prop where
 f : ∀ z ∈ y.zs, 0 < z.z.free.length → ∀ a, z.fo = some a → a.block ≠ b
 t : ∀ z ∈ y.zs, 0 < z.z.types.length → ∀ a, z.to_ = some a → a.block ≠ b
 m : 0 < y.mins.length → ∀ a, y.mo = some a → a.block ≠ b
 p : ∀ l ∈ y.ls, 0 < l.l.pages.length → ∀ a, l.po = some a → a.block ≠ b
 v : 0 < y.live.length → ∀ a, y.vo = some a → a.block ≠ b
structure HcpI (W : World) (s : Nat) (y : Hx) : Prop where
 oz : W.ownsRow s 54 4 (.slice y.zo y.zn y.zc) y.zn (c4 (y.zs.map Zc.q))
 ol : W.ownsRow s 69 4 (.slice y.lo y.ln y.lc) y.ln (c4 (y.ls.map Lc.q))
 at_ : y.At W
 az : ∀ a, y.zo = some a → Away a.block y
 al : ∀ a, y.lo = some a → AwayZ a.block y
 zl : ∀ a b, y.zo = some a → y.lo = some b → a.block ≠ b.block
theorem HcpI.below {W W' : World} {s : Nat} {y : Hx} (h : HcpI W s y) (hb : Below W.heap.size W W') : HcpI W' s y :=
 ⟨owns_below h.oz hb (Nat.le_refl _), owns_below h.ol hb (Nat.le_refl _), h.at_.below hb, h.az, h.al, h.zl⟩
theorem owns_blk {w : World} {base : Nat} {e : TypeId} {ao : Option Addr} {n cap size : Nat} {xs : List Value} (h : w.ownsRow base e size (.slice ao n cap) n xs) : ∀ a, ao = some a → base ≤ a.block ∧ a.block < w.heap.size ∧ a.off = 0 ∧ a = ⟨a.block, 0, none⟩ := by
 intro a ha
 rcases h.2 with ⟨h', _⟩ | ⟨g, cap', cur, h', hb, hg, _⟩
 ·simp only [Value.slice.injEq] at h'
  rw [h'.1] at ha
  cases ha
 simp only [Value.slice.injEq] at h'
 rw [h'.1] at ha
 cases ha
 exact ⟨hb, (Array.getElem?_eq_some_iff.1 hg).1, rfl, rfl⟩
theorem owns_butN {W W' : World} {b base : Nat} {e : TypeId} {ao : Option Addr} {n cap size : Nat} {xs : List Value} (h : W.ownsRow base e size (.slice ao n cap) n xs) (hb : But b W W') (hne : ∀ a, ao = some a → a.block ≠ b) : W'.ownsRow base e size (.slice ao n cap) n xs := by
 cases ao with
 | none => exact ⟨h.1, by rcases h.2 with q | ⟨_, _, _, q, _⟩; exact .inl q; cases q⟩
 | some a =>
  have e1 := (owns_blk h a rfl).2.2.2
  have e2 := hne a rfl
  rw [e1] at h ⊢
  exact own_but h hb e2
theorem HcpI.but {W W' : World} {s b : Nat} {y : Hx} (h : HcpI W s y) (hb : But b W W') (hz : ∀ a, y.zo = some a → a.block ≠ b) (hl : ∀ a, y.lo = some a → a.block ≠ b) (ha : Away b y) : HcpI W' s y := by
 refine ⟨?_, ?_, at_but h.at_ hb (fun _ => hz) ha, h.az, h.al, h.zl⟩
 ·exact owns_butN h.oz hb hz
 exact owns_butN h.ol hb hl
def Kit.Hx.addZ (y : Hx) (z : Zc) (g cap : Nat) : Hx := { y with zs := y.zs ++ [z], zo := some ⟨g, 0, none⟩, zn := y.zn + 1, zc := cap }
theorem HcpI.addZ {W W' : World} {s g cap q : Nat} {y : Hx} {z : Zc} (h : HcpI W s y) (hn : (y.zn + 1) * 64 ≤ 140737488351232) (hqW : q ≤ W.heap.size) (hzq : ∀ a, y.zo = some a → a.block < q) (hlq : ∀ a, y.lo = some a → a.block < q) (hz : z.At W) (h1 : ∀ a, z.fo = some a → q ≤ a.block) (h2 : ∀ a, z.to_ = some a → q ≤ a.block)
    (ho : W'.ownsRow s 54 4 (.slice (some ⟨g, 0, none⟩) (y.zn + 1) cap) (y.zn + 1) (c4 (y.zs.map Zc.q) ++ [z.q.a, z.q.b, z.q.c, z.q.d])) (hc : (y.zo = some ⟨g, 0, none⟩ ∧ But g W W') ∨ (g = W.heap.size ∧ Below W.heap.size W W')) : HcpI W' s (y.addZ z g cap) := by
 have hm : ((y.zs ++ [z]).map Zc.q) = y.zs.map Zc.q ++ [z.q] := by simp
 have hc4 : c4 ((y.zs ++ [z]).map Zc.q) = c4 (y.zs.map Zc.q) ++ [z.q.a, z.q.b, z.q.c, z.q.d] := by rw [hm, c4_append]; rfl
 have ho' : W'.ownsRow s 54 4 (.slice (some ⟨g, 0, none⟩) (y.zn + 1) cap) (y.zn + 1) (c4 ((y.zs ++ [z]).map Zc.q)) := by rw [hc4]; exact ho
 have hmem : ∀ c ∈ y.zs ++ [z], c ∈ y.zs ∨ c = z := fun c hc => by simpa using hc
 have hAw : Away g y := by
  rcases hc with ⟨e, _⟩ | ⟨e, _⟩
  ·exact h.az _ e
  exact away_old h.at_ (Nat.le_of_eq e.symm)
 have hgl : ∀ a, y.lo = some a → g ≠ a.block := by
  intro a ha
  have := hlq a ha
  rcases hc with ⟨e, _⟩ | ⟨e, _⟩
  ·exact h.zl _ a e ha
  omega
 have hgq : (y.zo = some ⟨g, 0, none⟩ ∧ g < q) ∨ g = W.heap.size := by
  rcases hc with ⟨e, _⟩ | ⟨e, _⟩
  ·exact .inl ⟨e, hzq _ e⟩
  exact .inr e
 have hAt : (∀ c ∈ y.zs ++ [z], c.At W') ∧ Nums W' y.mo y.mn y.mins ∧ Lsts W' y.lo y.ln y.ls ∧ Blks W' y.vo y.vn y.live ∧ W'.ownsRow s 69 4 (.slice y.lo y.ln y.lc) y.ln (c4 (y.ls.map Lc.q)) := by
  rcases hc with ⟨e, hb⟩ | ⟨e, hb⟩
  ·have hgqq := hzq _ e
   refine ⟨fun c hc => ?_, nums_but h.at_.mins hb hAw.m, ⟨h.at_.lists.len, h.at_.lists.reach, ?_, fun l hl => nums_but (h.at_.lists.at_ l hl) hb (hAw.p l hl)⟩, blks_but h.at_.live hb hAw.v, ?_⟩
   ·rcases hmem c hc with hc | rfl
    ·exact ⟨blks_but (h.at_.zones.at_ c hc).free hb (hAw.f c hc), nums_but (h.at_.zones.at_ c hc).types hb (hAw.t c hc)⟩
    exact hb.zn hz (fun a ha => by have := h1 a ha; dsimp only at hgqq; omega) (fun a ha => by have := h2 a ha; dsimp only at hgqq; omega)
   ·by_cases h0 : 0 < y.ls.length
    ·exact h.at_.lists.cells.but hb (hAw.l h0)
    intro i hi; rw [List.length_map] at hi; omega
   exact owns_butN h.ol hb (fun a ha => Ne.symm (hgl a ha))
  refine ⟨fun c hc => ?_, h.at_.mins.below hb, h.at_.lists.below hb, h.at_.live.below hb, owns_below h.ol hb (Nat.le_refl _)⟩
  rcases hmem c hc with hc | rfl
  ·exact (h.at_.zones.at_ c hc).below hb
  exact hz.below hb
 have hzn := h.at_.zones.len
 refine ⟨ho', hAt.2.2.2.2, ⟨⟨by show (y.zs ++ [z]).length = y.zn + 1; simp [hzn], hn, c4_of_owns ho', hAt.1⟩, hAt.2.1, hAt.2.2.1, hAt.2.2.2.1⟩, ?_, ?_, ?_⟩
 ·intro a ha
  cases ha
  refine ⟨fun c hc h0 a ha => ?_, fun c hc h0 a ha => ?_, hAw.m, hAw.l, hAw.p, hAw.v⟩
  ·rcases hmem c hc with hc | rfl
   ·exact hAw.f c hc h0 a ha
   have h5 := h1 a ha
   have h6 := blks_lt hz.free h0 a ha
   show _ ≠ g
   rcases hgq with ⟨_, h7⟩ | h7 <;> omega
  rcases hmem c hc with hc | rfl
  ·exact hAw.t c hc h0 a ha
  have h5 := h2 a ha
  have h6 := nums_lt hz.types h0 a ha
  show _ ≠ g
  rcases hgq with ⟨_, h7⟩ | h7 <;> omega
 ·intro a ha
  have hA := h.al a ha
  have := hlq a ha
  refine ⟨fun c hc h0 b hb => ?_, fun c hc h0 b hb => ?_, hA.m, hA.p, hA.v⟩
  ·rcases hmem c hc with hc | rfl
   ·exact hA.f c hc h0 b hb
   have h5 := h1 b hb
   omega
  rcases hmem c hc with hc | rfl
  ·exact hA.t c hc h0 b hb
  have h5 := h2 b hb
  omega
 intro a b ha hb
 cases ha
 exact hgl b hb
def Kit.Hx.addL (y : Hx) (l : Lc) (g cap : Nat) : Hx := { y with ls := y.ls ++ [l], lo := some ⟨g, 0, none⟩, ln := y.ln + 1, lc := cap }
theorem HcpI.addL {W W' : World} {s g cap q : Nat} {y : Hx} {l : Lc} (h : HcpI W s y) (hn : (y.ln + 1) * 48 ≤ 140737488351232) (hqW : q ≤ W.heap.size) (hzq : ∀ a, y.zo = some a → a.block < q) (hlq : ∀ a, y.lo = some a → a.block < q) (hz : l.At W) (h1 : ∀ a, l.po = some a → q ≤ a.block)
    (ho : W'.ownsRow s 69 4 (.slice (some ⟨g, 0, none⟩) (y.ln + 1) cap) (y.ln + 1) (c4 (y.ls.map Lc.q) ++ [l.q.a, l.q.b, l.q.c, l.q.d])) (hc : (y.lo = some ⟨g, 0, none⟩ ∧ But g W W') ∨ (g = W.heap.size ∧ Below W.heap.size W W')) : HcpI W' s (y.addL l g cap) := by
 have hm : ((y.ls ++ [l]).map Lc.q) = y.ls.map Lc.q ++ [l.q] := by simp
 have hc4 : c4 ((y.ls ++ [l]).map Lc.q) = c4 (y.ls.map Lc.q) ++ [l.q.a, l.q.b, l.q.c, l.q.d] := by rw [hm, c4_append]; rfl
 have ho' : W'.ownsRow s 69 4 (.slice (some ⟨g, 0, none⟩) (y.ln + 1) cap) (y.ln + 1) (c4 ((y.ls ++ [l]).map Lc.q)) := by rw [hc4]; exact ho
 have hmem : ∀ c ∈ y.ls ++ [l], c ∈ y.ls ∨ c = l := fun c hc => by simpa using hc
 have hAw : AwayZ g y := by
  rcases hc with ⟨e, _⟩ | ⟨e, _⟩
  ·exact h.al _ e
  have := away_old h.at_ (Nat.le_of_eq e.symm)
  exact ⟨this.f, this.t, this.m, this.p, this.v⟩
 have hgz : ∀ a, y.zo = some a → a.block ≠ g := by
  intro a ha
  have := hzq a ha
  rcases hc with ⟨e, _⟩ | ⟨e, _⟩
  ·exact h.zl a _ ha e
  omega
 have hgq : (y.lo = some ⟨g, 0, none⟩ ∧ g < q) ∨ g = W.heap.size := by
  rcases hc with ⟨e, _⟩ | ⟨e, _⟩
  ·exact .inl ⟨e, hlq _ e⟩
  exact .inr e
 have hAt : (∀ c ∈ y.ls ++ [l], c.At W') ∧ Nums W' y.mo y.mn y.mins ∧ Zons W' y.zo y.zn y.zs ∧ Blks W' y.vo y.vn y.live ∧ W'.ownsRow s 54 4 (.slice y.zo y.zn y.zc) y.zn (c4 (y.zs.map Zc.q)) := by
  rcases hc with ⟨e, hb⟩ | ⟨e, hb⟩
  ·have hgqq := hlq _ e
   refine ⟨fun c hc => ?_, nums_but h.at_.mins hb hAw.m, ⟨h.at_.zones.len, h.at_.zones.reach, ?_, fun z hz => ⟨blks_but (h.at_.zones.at_ z hz).free hb (hAw.f z hz), nums_but (h.at_.zones.at_ z hz).types hb (hAw.t z hz)⟩⟩, blks_but h.at_.live hb hAw.v, owns_butN h.oz hb hgz⟩
   ·rcases hmem c hc with hc | rfl
    ·exact nums_but (h.at_.lists.at_ c hc) hb (hAw.p c hc)
    exact nums_but hz hb (fun _ a ha => by have := h1 a ha; dsimp only at hgqq; omega)
   by_cases h0 : 0 < y.zs.length
   ·exact h.at_.zones.cells.but hb hgz
   intro i hi; rw [List.length_map] at hi; omega
  refine ⟨fun c hc => ?_, h.at_.mins.below hb, h.at_.zones.below hb, h.at_.live.below hb, owns_below h.oz hb (Nat.le_refl _)⟩
  rcases hmem c hc with hc | rfl
  ·exact (h.at_.lists.at_ c hc).below hb
  exact hz.below hb
 have hln := h.at_.lists.len
 refine ⟨hAt.2.2.2.2, ho', ⟨hAt.2.2.1, hAt.2.1, ⟨by show (y.ls ++ [l]).length = y.ln + 1; simp [hln], hn, c4_of_owns ho', hAt.1⟩, hAt.2.2.2.1⟩, ?_, ?_, ?_⟩
 ·intro a ha
  have hA := h.az a ha
  have := hzq a ha
  refine ⟨hA.f, hA.t, hA.m, fun _ b hb => ?_, fun c hc h0 b hb => ?_, hA.v⟩
  ·cases hb
   exact Ne.symm (hgz a ha)
  rcases hmem c hc with hc | rfl
  ·exact hA.p c hc h0 b hb
  have h5 := h1 b hb
  omega
 ·intro a ha
  cases ha
  refine ⟨hAw.f, hAw.t, hAw.m, fun c hc h0 b hb => ?_, hAw.v⟩
  rcases hmem c hc with hc | rfl
  ·exact hAw.p c hc h0 b hb
  have h5 := h1 b hb
  have h6 := nums_lt hz h0 b hb
  show _ ≠ g
  rcases hgq with ⟨_, h7⟩ | h7 <;> omega
 intro a b ha hb
 cases hb
 exact hgz a ha
theorem HcpI.hz {W : World} {s : Nat} {y : Hx} (h : HcpI W s y) (hn : 0 < y.zn) : ∃ gz, HZ W s gz y := by
 obtain ⟨g, e, hb, _⟩ := owns_head h.oz hn
 exact ⟨g, h.oz, e, h.at_, h.az _ e, hb⟩
structure HcQ (w W : World) (b1 b4 b3 : Nat) (x y : Hx) : Prop where
 B : Below w.heap.size w W
 r1 : W.heap[b1]? = some (.cells #[.slice x.zo x.zn x.zc, .slice x.mo x.mn x.mc, .int .i64 x.cpus, .slice x.lo x.ln x.lc, .slice x.vo x.vn x.vc] 34 (0, 0))
 r4 : W.heap[b4]? = some (.cells #[.slice none 0 0, .slice none 0 0, .int .i64 0, .slice none 0 0, .slice none 0 0] 34 (0, 0))
 r3 : W.heap[b3]? = some (.cells #[.slice y.zo y.zn y.zc, .slice y.mo y.mn y.mc, .int .i64 y.cpus, .slice y.lo y.ln y.lc, .slice y.vo y.vn y.vc] 34 (0, 0))
 C : HcpI W w.heap.size y
 z3 : ∀ a, y.zo = some a → a.block ≠ b3 ∧ a.block ≠ b1 ∧ a.block ≠ b4
 l3 : ∀ a, y.lo = some a → a.block ≠ b3 ∧ a.block ≠ b1 ∧ a.block ≠ b4
 a3 : Away b3 y
 a4 : Away b4 y
 a5 : ∀ b, b < w.heap.size → Away b y
 e1 : y.mins = x.mins
 e2 : y.cpus = x.cpus
 e3 : y.live = x.live
 d : w.heap.size ≤ b1 ∧ w.heap.size ≤ b4 ∧ w.heap.size ≤ b3 ∧ b1 ≠ b3 ∧ b4 ≠ b3
theorem HcQ.below {w W W' : World} {b1 b4 b3 : Nat} {x y : Hx} (h : HcQ w W b1 b4 b3 x y) (hb : Below W.heap.size W W') : HcQ w W' b1 b4 b3 x y :=
 ⟨Below.next h.B hb, row_next h.r1 hb, row_next h.r4 hb, row_next h.r3 hb, h.C.below hb, h.z3, h.l3, h.a3, h.a4, h.a5, h.e1, h.e2, h.e3, h.d⟩
theorem HcQ.lt {w W : World} {b1 b4 b3 : Nat} {x y : Hx} (h : HcQ w W b1 b4 b3 x y) : b1 < W.heap.size ∧ b4 < W.heap.size ∧ b3 < W.heap.size ∧ (∀ a, y.zo = some a → a.block < W.heap.size) ∧ (∀ a, y.lo = some a → a.block < W.heap.size) :=
 ⟨row_lt h.r1, row_lt h.r4, row_lt h.r3, fun a ha => (owns_blk h.C.oz a ha).2.1, fun a ha => (owns_blk h.C.ol a ha).2.1⟩
theorem HcQ.addZ {w W W1 W2 : World} {b1 b4 b3 q g cap : Nat} {x y : Hx} {z : Zc} (h : HcQ w W b1 b4 b3 x y) (hn : (y.zn + 1) * 64 ≤ 140737488351232) (hqW : q ≤ W.heap.size) (hq : b1 < q ∧ b4 < q ∧ b3 < q ∧ (∀ a, y.zo = some a → a.block < q) ∧ (∀ a, y.lo = some a → a.block < q)) (hz : z.At W) (h1 : ∀ a, z.fo = some a → q ≤ a.block) (h2 : ∀ a, z.to_ = some a → q ≤ a.block)
    (ho : W1.ownsRow w.heap.size 54 4 (.slice (some ⟨g, 0, none⟩) (y.zn + 1) cap) (y.zn + 1) (c4 (y.zs.map Zc.q) ++ [z.q.a, z.q.b, z.q.c, z.q.d])) (hc : (y.zo = some ⟨g, 0, none⟩ ∧ But g W W1) ∨ (g = W.heap.size ∧ Below W.heap.size W W1))
    (hb : But b3 W1 W2) (hr : W2.heap[b3]? = some (.cells #[.slice (some ⟨g, 0, none⟩) (y.zn + 1) cap, .slice y.mo y.mn y.mc, .int .i64 y.cpus, .slice y.lo y.ln y.lc, .slice y.vo y.vn y.vc] 34 (0, 0))) : HcQ w W2 b1 b4 b3 x (y.addZ z g cap) := by
 obtain ⟨l1, l4, l3, lz, ll⟩ := hq
 have hC := h.C.addZ hn hqW lz ll hz h1 h2 ho hc
 have hg : g ≠ b3 ∧ g ≠ b1 ∧ g ≠ b4 := by
  rcases hc with ⟨e, _⟩ | ⟨e, _⟩
  ·exact h.z3 _ e
  omega
 have hgw : w.heap.size ≤ g := (owns_blk ho _ rfl).1
 have hd := h.d
 have hbw := h.B.size
 have hB1 : Below w.heap.size w W1 := by
  rcases hc with ⟨_, k⟩ | ⟨_, k⟩
  ·exact h.B.trans (k.below hgw h.B.size)
  exact Below.next h.B k
 have hrow : ∀ {b : Nat} {o : Obj}, W.heap[b]? = some o → b ≠ g → W1.heap[b]? = some o := by
  intro b o hb hne
  rcases hc with ⟨_, k⟩ | ⟨_, k⟩
  ·exact But.row k hb hne
  exact row_next hb k
 have hA : Away b3 (y.addZ z g cap) := by
  have hmem : ∀ c ∈ y.zs ++ [z], c ∈ y.zs ∨ c = z := fun c hc => by simpa using hc
  refine ⟨fun c hc h0 a ha => ?_, fun c hc h0 a ha => ?_, h.a3.m, h.a3.l, h.a3.p, h.a3.v⟩
  ·rcases hmem c hc with hc | rfl
   ·exact h.a3.f c hc h0 a ha
   have := h1 a ha; omega
  rcases hmem c hc with hc | rfl
  ·exact h.a3.t c hc h0 a ha
  have := h2 a ha; omega
 have hA4 : Away b4 (y.addZ z g cap) := by
  have hmem : ∀ c ∈ y.zs ++ [z], c ∈ y.zs ∨ c = z := fun c hc => by simpa using hc
  refine ⟨fun c hc h0 a ha => ?_, fun c hc h0 a ha => ?_, h.a4.m, h.a4.l, h.a4.p, h.a4.v⟩
  ·rcases hmem c hc with hc | rfl
   ·exact h.a4.f c hc h0 a ha
   have := h1 a ha; omega
  rcases hmem c hc with hc | rfl
  ·exact h.a4.t c hc h0 a ha
  have := h2 a ha; omega
 have hA5 : ∀ b5, b5 < w.heap.size → Away b5 (y.addZ z g cap) := by
  intro b5 hb5
  have hmem : ∀ c ∈ y.zs ++ [z], c ∈ y.zs ∨ c = z := fun c hc => by simpa using hc
  refine ⟨fun c hc h0 a ha => ?_, fun c hc h0 a ha => ?_, (h.a5 b5 hb5).m, (h.a5 b5 hb5).l, (h.a5 b5 hb5).p, (h.a5 b5 hb5).v⟩
  ·rcases hmem c hc with hc | rfl
   ·exact (h.a5 b5 hb5).f c hc h0 a ha
   have := h1 a ha; omega
  rcases hmem c hc with hc | rfl
  ·exact (h.a5 b5 hb5).t c hc h0 a ha
  have := h2 a ha; omega
 exact ⟨hB1.trans (hb.below hd.2.2.1 hB1.size), But.row hb (hrow h.r1 (Ne.symm hg.2.1)) hd.2.2.2.1, But.row hb (hrow h.r4 (Ne.symm hg.2.2)) hd.2.2.2.2, hr,
  hC.but hb (fun a ha => by cases ha; exact hg.1) (fun a ha => (h.l3 a ha).1) hA, fun a ha => by cases ha; exact hg, h.l3, hA, hA4, hA5, h.e1, h.e2, h.e3, hd⟩
theorem HcQ.addL {w W W1 W2 : World} {b1 b4 b3 q g cap : Nat} {x y : Hx} {l : Lc} (h : HcQ w W b1 b4 b3 x y) (hn : (y.ln + 1) * 48 ≤ 140737488351232) (hqW : q ≤ W.heap.size) (hq : b1 < q ∧ b4 < q ∧ b3 < q ∧ (∀ a, y.zo = some a → a.block < q) ∧ (∀ a, y.lo = some a → a.block < q)) (hz : l.At W) (h1 : ∀ a, l.po = some a → q ≤ a.block)
    (ho : W1.ownsRow w.heap.size 69 4 (.slice (some ⟨g, 0, none⟩) (y.ln + 1) cap) (y.ln + 1) (c4 (y.ls.map Lc.q) ++ [l.q.a, l.q.b, l.q.c, l.q.d])) (hc : (y.lo = some ⟨g, 0, none⟩ ∧ But g W W1) ∨ (g = W.heap.size ∧ Below W.heap.size W W1))
    (hb : But b3 W1 W2) (hr : W2.heap[b3]? = some (.cells #[.slice y.zo y.zn y.zc, .slice y.mo y.mn y.mc, .int .i64 y.cpus, .slice (some ⟨g, 0, none⟩) (y.ln + 1) cap, .slice y.vo y.vn y.vc] 34 (0, 0))) : HcQ w W2 b1 b4 b3 x (y.addL l g cap) := by
 obtain ⟨l1, l4, l3, lz, ll⟩ := hq
 have hC := h.C.addL hn hqW lz ll hz h1 ho hc
 have hg : g ≠ b3 ∧ g ≠ b1 ∧ g ≠ b4 := by
  rcases hc with ⟨e, _⟩ | ⟨e, _⟩
  ·exact h.l3 _ e
  omega
 have hgw : w.heap.size ≤ g := (owns_blk ho _ rfl).1
 have hd := h.d
 have hbw := h.B.size
 have hB1 : Below w.heap.size w W1 := by
  rcases hc with ⟨_, k⟩ | ⟨_, k⟩
  ·exact h.B.trans (k.below hgw h.B.size)
  exact Below.next h.B k
 have hrow : ∀ {b : Nat} {o : Obj}, W.heap[b]? = some o → b ≠ g → W1.heap[b]? = some o := by
  intro b o hb hne
  rcases hc with ⟨_, k⟩ | ⟨_, k⟩
  ·exact But.row k hb hne
  exact row_next hb k
 have hA : Away b3 (y.addL l g cap) := by
  have hmem : ∀ c ∈ y.ls ++ [l], c ∈ y.ls ∨ c = l := fun c hc => by simpa using hc
  refine ⟨h.a3.f, h.a3.t, h.a3.m, fun _ a ha => (by cases ha; exact hg.1), fun c hc h0 a ha => ?_, h.a3.v⟩
  rcases hmem c hc with hc | rfl
  ·exact h.a3.p c hc h0 a ha
  have := h1 a ha; omega
 have hA4 : Away b4 (y.addL l g cap) := by
  have hmem : ∀ c ∈ y.ls ++ [l], c ∈ y.ls ∨ c = l := fun c hc => by simpa using hc
  refine ⟨h.a4.f, h.a4.t, h.a4.m, fun _ a ha => (by cases ha; exact hg.2.2), fun c hc h0 a ha => ?_, h.a4.v⟩
  rcases hmem c hc with hc | rfl
  ·exact h.a4.p c hc h0 a ha
  have := h1 a ha; omega
 have hA5 : ∀ b5, b5 < w.heap.size → Away b5 (y.addL l g cap) := by
  intro b5 hb5
  have hmem : ∀ c ∈ y.ls ++ [l], c ∈ y.ls ∨ c = l := fun c hc => by simpa using hc
  refine ⟨(h.a5 b5 hb5).f, (h.a5 b5 hb5).t, (h.a5 b5 hb5).m, fun _ a ha => (by cases ha; show g ≠ b5; omega), fun c hc h0 a ha => ?_, (h.a5 b5 hb5).v⟩
  rcases hmem c hc with hc | rfl
  ·exact (h.a5 b5 hb5).p c hc h0 a ha
  have := h1 a ha; omega
 exact ⟨hB1.trans (hb.below hd.2.2.1 hB1.size), But.row hb (hrow h.r1 (Ne.symm hg.2.1)) hd.2.2.2.1, But.row hb (hrow h.r4 (Ne.symm hg.2.2)) hd.2.2.2.2, hr,
  hC.but hb (fun a ha => (h.z3 a ha).1) (fun a ha => by cases ha; exact hg.1) hA, h.z3, fun a ha => by cases ha; exact hg, hA, hA4, hA5, h.e1, h.e2, h.e3, hd⟩
structure HRest (w : World) (y : Hx) : Prop where
 zones : Zons w y.zo y.zn y.zs
 mins : Nums w y.mo y.mn y.mins
 live : Blks w y.vo y.vn y.live
 pages : ∀ l ∈ y.ls, Nums w l.po l.pn l.l.pages
structure AwayL (b : Nat) (y : Hx) : Prop where
 z : 0 < y.zs.length → ∀ a, y.zo = some a → a.block ≠ b
 f : ∀ z ∈ y.zs, 0 < z.z.free.length → ∀ a, z.fo = some a → a.block ≠ b
 t : ∀ z ∈ y.zs, 0 < z.z.types.length → ∀ a, z.to_ = some a → a.block ≠ b
 m : 0 < y.mins.length → ∀ a, y.mo = some a → a.block ≠ b
 p : ∀ l ∈ y.ls, 0 < l.l.pages.length → ∀ a, l.po = some a → a.block ≠ b
 v : 0 < y.live.length → ∀ a, y.vo = some a → a.block ≠ b
theorem HRest.of {w : World} {y : Hx} (h : y.At w) : HRest w y := ⟨h.zones, h.mins, h.live, h.lists.at_⟩
theorem HRest.below {w w' : World} {y : Hx} (h : HRest w y) (hb : Below w.heap.size w w') : HRest w' y :=
 ⟨h.zones.below hb, h.mins.below hb, h.live.below hb, fun l hl => (h.pages l hl).below hb⟩
theorem zons_but {w w' : World} {b : Nat} {zo : Option Addr} {zn : Nat} {zs : List Zc} (h : Zons w zo zn zs) (hb : But b w w') (h0 : 0 < zs.length → ∀ a, zo = some a → a.block ≠ b)
    (h1 : ∀ z ∈ zs, 0 < z.z.free.length → ∀ a, z.fo = some a → a.block ≠ b) (h2 : ∀ z ∈ zs, 0 < z.z.types.length → ∀ a, z.to_ = some a → a.block ≠ b) : Zons w' zo zn zs := by
 refine ⟨h.len, h.reach, ?_, fun z hz => ⟨blks_but (h.at_ z hz).free hb (h1 z hz), nums_but (h.at_ z hz).types hb (h2 z hz)⟩⟩
 by_cases e : 0 < zs.length
 ·exact h.cells.but hb (h0 e)
 intro i hi; rw [List.length_map] at hi; omega
theorem HRest.but {w w' : World} {b : Nat} {y : Hx} (h : HRest w y) (a : AwayL b y) (hb : But b w w') : HRest w' y :=
 ⟨zons_but h.zones hb a.z a.f a.t, nums_but h.mins hb a.m, blks_but h.live hb a.v, fun l hl => nums_but (h.pages l hl) hb (a.p l hl)⟩
def Kit.Hx.withL (y : Hx) (ls : List Lc) (lo : Option Addr) (ln lc : Nat) : Hx := { y with ls := ls, lo := lo, ln := ln, lc := lc }
theorem at_withL {w : World} {y : Hx} (h : HRest w y) {base : Nat} {ls : List Lc} {lo : Option Addr} {ln lc : Nat} (own : w.ownsRow base 69 4 (.slice lo ln lc) ln (c4 (ls.map Lc.q))) (hr : ln * 48 ≤ 140737488351232)
    (hls : ∀ l ∈ ls, Nums w l.po l.pn l.l.pages) : (y.withL ls lo ln lc).At w :=
 ⟨h.zones, h.mins, ⟨by have := c4owns_len own; rw [List.length_map] at this; exact this, hr, c4_of_owns own, hls⟩, h.live⟩
theorem Kit.Bu2.then {g z : Nat} {w w' w'' : World} (h : Bu2 g z w w') (hb : Below w'.heap.size w' w'') : Bu2 g z w w'' := h.trans (Bu2.of_below hb)
theorem lc_one (ls : List Lc) : ∀ x ∈ ls.map Lc.q, x.One := by
 intro x hx
 obtain ⟨l, _, rfl⟩ := List.mem_map.1 hx
 exact ⟨rfl, rfl, rfl, rfl⟩
theorem lDel_all (w : World) (base n cap i : Nat) (lo : Option Addr) (l : List Q4) (hi : i < n) (hn : n ≤ 300) (hl1 : ∀ x ∈ l, x.One) (own : w.ownsRow base 69 4 (.slice lo n cap) n (c4 l)) :
    Calls Tryz.prog 104 #[.slice lo n cap, .int .i64 i, .int .i64 ((i : Int) + 1)] w fun e w' => ∃ g, lo = some ⟨g, 0, none⟩ ∧ e = .returned (.slice lo (n - 1 : Nat) cap) ∧
     w'.ownsRow base 69 4 (.slice lo (n - 1) cap) (n - 1) (c4 (l.eraseIdx i)) ∧ But g w w' := by
 obtain ⟨N, rfl⟩ : ∃ N, n = N + 1 := ⟨n - 1, by omega⟩
 rcases own.2 with ⟨_, e2⟩ | ⟨g, cap', cur, e1, _⟩
 ·omega
 simp only [Value.slice.injEq] at e1
 obtain ⟨rfl, _, _⟩ := e1
 refine (lDel_any w base g N cap i l (by omega) (by omega) hl1 own).mono ?_
 rintro e w' ⟨rfl, h1, h2⟩
 exact ⟨g, rfl, rfl, h1, h2⟩
theorem at_exists {l : List Ls} (hr : RiseP l) (x : Ls) : ∃ i b, AtL l x i b := by
 have key : ∀ n, n ≤ l.length → (∀ j, j < n → aheadL (l.getD j .zero) x) ∨ ∃ i, i < n ∧ (∀ j, j < i → aheadL (l.getD j .zero) x) ∧ ¬ aheadL (l.getD i .zero) x := by
  intro n
  induction n with
  | zero => intro _; exact .inl fun j hj => absurd hj (Nat.not_lt_zero j)
  | succ n ih =>
   intro hn
   rcases ih (by omega) with h | ⟨i, hi, h1, h2⟩
   ·by_cases e : aheadL (l.getD n .zero) x
    ·refine .inl fun j hj => ?_
     by_cases ej : j = n
     ·subst ej; exact e
     exact h j (by omega)
    exact .inr ⟨n, by omega, h, e⟩
   exact .inr ⟨i, by omega, h1, h2⟩
 rcases key l.length (Nat.le_refl _) with h | ⟨i, hi, h1, h2⟩
 ·exact ⟨l.length, false, Nat.le_refl _, h, fun j h1 h2 => by omega, by simp⟩
 refine ⟨i, decide ((l.getD i .zero).c = x.c ∧ (l.getD i .zero).z = x.z ∧ (l.getD i .zero).t = x.t), by omega, h1, fun j hj hl h => ?_, by simp [hi]⟩
 by_cases e : i = j
 ·subst e; exact h2 h
 exact h2 (ahead_trans (rise_lt hr (by omega) hl) h)
theorem at_unique {l : List Ls} {x : Ls} {i j : Nat} {b c : Bool} (h : AtL l x i b) (k : AtL l x j c) : i = j ∧ b = c := by
 have e : i = j := by
  rcases Nat.lt_trichotomy i j with g | g | g
  ·exact absurd (k.2.1 i g) (h.2.2.1 i (Nat.le_refl _) (by have := k.1; omega))
  ·exact g
  exact absurd (h.2.1 j g) (k.2.2.1 j (Nat.le_refl _) (by have := h.1; omega))
 subst e
 refine ⟨rfl, ?_⟩
 rw [Bool.eq_iff_iff, h.2.2.2, k.2.2.2]
theorem pListAt_c (w : World) (y : Hx) (x : Ls) (pv : Value) (hy : y.At w) (hord : RiseL y.ls) {i : Nat} {b : Bool} (hA : AtL y.hp.lists x i b) :
    Calls Tryz.prog 86 #[.agg #[.slice y.zo y.zn y.zc, .slice y.mo y.mn y.mc, .int .i64 y.cpus, .slice y.lo y.ln y.lc, .slice y.vo y.vn y.vc], .agg #[.int .i64 x.c, .int .i64 x.z, .int .i64 x.t, pv]] w fun e w' => e = .returned (.tuple #[.int .i64 (i : Nat), .bool b]) ∧ Below w.heap.size w w' := by
 refine (pListAt_any w y x pv hy hord).mono ?_
 rintro e w' ⟨⟨j, c, rfl, hk⟩, hb⟩
 obtain ⟨rfl, rfl⟩ := at_unique hA hk
 exact ⟨rfl, hb⟩
end Go.Proofs.YtjohdbiipeedkaaGreatDoor
namespace Go.Proofs.YtjohdbiipeedkaaGreatDoor.Kit
open Go Go.RowKit
theorem Fr.more {A : Act} {N d : Nat} {L : List (Nat × Value)} {v : Value} (f : Fr A N L) (h : A.tmps.getD d undef = v) : Fr A N ((d, v) :: L) := by
 refine ⟨f.size, f.defs, fun i u g => ?_⟩
 unfold look at g
 cases hb : Nat.beq d i with
 | true =>
  simp only [hb, cond_true, Option.some.injEq] at g
  have e := Nat.eq_of_beq_eq_true hb
  subst e
  rw [h, g]
 | false =>
  simp only [hb, cond_false] at g
  exact f.at_ i u g
theorem Fr.off {A : Act} {N d : Nat} {L : List (Nat × Value)} (f : Fr A N L) (v : Value) (hd : d < N) (h : look L d = none) : Fr (A.put (some d) v) N L := by
 have g := f.put d v hd
 refine ⟨g.size, g.defs, fun i u hi => g.at_ i u ?_⟩
 unfold look
 cases hb : Nat.beq d i with
 | true =>
  have e := Nat.eq_of_beq_eq_true hb
  subst e
  rw [h] at hi
  cases hi
 | false => simpa [hb] using hi
abbrev VW := Value → List Value → World → Prop
def rOf (Rs : List VW) (j : Nat) (v : Value) (vs : List Value) (w : World) : Prop :=
 match Rs[j]? with
 | some r => r v vs w
 | none => True
def blkOf : Value → Option Nat
 | .slice (some a) _ _ => some a.block
 | .pointer (some a) => some a.block
 | _ => none
def slotV (l : List Oper) (a : Act) (j : Nat) : Value := a.tmps.getD (((l[j]?).bind (·.dst)).getD 0) undef
def slotB (l : List Oper) (Fs : List Nat) (a : Act) (j : Nat) : Option Nat := bif memN Fs j then blkOf (slotV l a j) else none
def okB (l : List Oper) (L0 : List (Nat × Value)) (N i : Nat) : Bool :=
 match l[i]? with
 | some o => match o.dst with
  | some d => o.guard.isNone && Nat.blt d N && (look L0 d).isNone && (o.after.all fun e => !Region.binds .any e || decide (e.on < i)) && (List.range i).all fun j => !(((l[j]?).bind (·.dst)) == some d)
  | none => false
 | none => false
def growB (l : List Oper) (L0 : List (Nat × Value)) (N : Nat) : Bool := (List.range l.length).all (okB l L0 N)
def depsOf (o : Oper) : List Nat := (o.after.toList.filter (Region.binds .any)).map (·.on)
def depsAt (l : List Oper) (j : Nat) : List Nat :=
 match l[j]? with
 | some o => depsOf o
 | none => []
def allP (Φ : Nat → Prop) : List Nat → Prop
 | [] => True
 | j :: r => Φ j ∧ allP Φ r
def allO (Φ : Nat → Oper → Prop) : Nat → List Oper → Prop
 | _, [] => True
 | k, o :: r => Φ k o ∧ allO Φ (k + 1) r
section
variable {P : Program} {l : List Oper} {Q : Exit → Act → World → Prop} {S : World → Prop} {N : Nat} {L0 : List (Nat × Value)} {Rs : List VW} {Fs : List Nat}
def stepG' (P : Program) (l : List Oper) (Q : Exit → Act → World → Prop) (S : World → Prop) (N : Nat) (L0 : List (Nat × Value)) (Rs : List VW) (Fs : List Nat) (i : Nat) (o : Oper) : Prop :=
 ∀ a w, S w → Fr a N L0 → allP (fun j => rOf Rs j (slotV l a j) ((depsAt l j).map (slotV l a)) w) (depsOf o) →
  ∀ K : Act → World → Prop, (∀ v w', Below w.heap.size w w' → rOf Rs i v ((depsOf o).map (slotV l a)) w' → (∀ b, (bif memN Fs i then blkOf v else none) = some b → w.heap.size ≤ b ∧ b < w'.heap.size) → K (a.put o.dst v) w') → o.wp P a w K Q
structure GI (S : World → Prop) (N : Nat) (L0 : List (Nat × Value)) (l : List Oper) (Rs : List VW) (Fs : List Nat) (listed : Array Bool) (a : Act) (w : World) : Prop where
 s : S w
 f : Fr a N L0
 r : ∀ j, listed.getD j false = true → rOf Rs j (slotV l a j) ((depsAt l j).map (slotV l a)) w
 c : ∀ j, listed.getD j false = true → ∀ k ∈ depsAt l j, listed.getD k false = true
 b : ∀ j b, listed.getD j false = true → slotB l Fs a j = some b → b < w.heap.size
 d : ∀ j k b c, listed.getD j false = true → listed.getD k false = true → j ≠ k → slotB l Fs a j = some b → slotB l Fs a k = some c → b ≠ c
def leftN (l : Array Bool) : Nat := l.toList.countP (fun b => !b)
variable {a : Act} {w : World} {L : List (Nat × Value)} {o : Oper} {K : Act → World → Prop}
theorem g_val {v : Value} (f : Fr a N L) (hy : YC P (ClB w) L o v) (h : K (a.put o.dst v) w) : o.wp P a w K Q := by
 unfold Oper.wp
 rw [hy a.eval (fun x u hu => f.ev hu) w (Below.refl _ _), Oper.upon_value]
 exact h
theorem g_call {g : FuncId} {args : List Value} {R : Ending → World → Prop} (f : Fr a N L) (hc : IsCall L o g args) (hp : Plain P g) (hR : Calls P g args.toArray w R) (h : ∀ e w', R e w' → ∃ v, e = .returned v ∧ K (a.put o.dst v) w') : o.wp P a w K Q := by
 unfold Oper.wp
 rw [hc.run hp (fun x u hu => f.ev hu) w, Oper.upon_enter]
 refine hR.mono fun e w' he => ?_
 obtain ⟨v, rfl, hk⟩ := h e w' he
 exact hk
theorem g_alloc {t : TypeId} {z : Value} (ho : o.op = .alloc t) (hz : (P.info? t).map (·.zero) = some (some z))
    (h : ∀ b W, w.heap.size = b → Below w.heap.size w W → W.heap[b]? = some (.cells z.cells t (0, 0)) → K (a.put o.dst (.pointer (some ⟨b, 0, none⟩))) W) : o.wp P a w K Q := by
 simp only [Option.map_eq_some_iff] at hz
 obtain ⟨inf, hi, he⟩ := hz
 have hzv : (zeroValue t).run P w = .ok z w := by
  unfold zeroValue typeInfo
  simp [go_sem, hi, he]
 unfold Oper.wp
 have hr : (execOp a.eval o).run P w = .ok (.value (.pointer (some ⟨w.heap.size, 0, none⟩))) (w.alloc (.cells z.cells t)) := by
  simp [execOp, ho, Instr.alloc, newVar, newRow, go_sem, hzv]
 rw [hr, Oper.upon_value]
 exact h _ _ rfl ((Below.refl w.heap.size w).alloc (Nat.le_refl _) _) (by show (w.heap.push _)[w.heap.size]? = _; rw [Array.getElem?_push, if_pos rfl])
theorem g_store {t tt : TypeId} {x y : Operand} {b off n : Nat} {v : Value} {cs : List Value} (f : Fr a N L) (hd : o.dst = none) (ho : o.op = .store t x y) (hx : ev L x = some (.pointer (some ⟨b, off, none⟩))) (hy : ev L y = some v)
    (hrow : w.heap[b]? = some (.cells cs.toArray tt (0, 0))) (hs : szB P t = some n) (hn : v.cells.size = n) (hf : off + n ≤ cs.length) (h1 : (v.cells.toList.all (·.oneCell')) = true)
    (h : ∀ W, But b w W → W.heap[b]? = some (.cells (setL cs off v.cells.toList).toArray tt (0, 0)) → K a W) : o.wp P a w K Q := by
 obtain ⟨W, hr, hb, hw'⟩ := store_run (P := P) f ho hx hy hrow hs hn hf h1
 unfold Oper.wp
 rw [hr, Oper.upon_skip, hd]
 exact h W hb hw'
end
end Go.Proofs.YtjohdbiipeedkaaGreatDoor.Kit
namespace Go.Proofs.YtjohdbiipeedkaaGreatDoor
open Go Go.RowKit Go.Proofs.YtjohdbiipeedkaaGreatDoor.Kit
theorem awayL_old {w : World} {b : Nat} {y : Hx} (h : y.At w) (hb : w.heap.size ≤ b) : AwayL b y := by
 refine ⟨fun h0 a ha => ?_, fun z hz h0 a ha => ?_, fun z hz h0 a ha => ?_, fun h0 a ha => ?_, fun l hl h0 a ha => ?_, fun h0 a ha => ?_⟩
 ·obtain ⟨c, off, e, hc, _⟩ := h.zones.cells 0 (by simpa using h0)
  rw [e] at ha
  cases ha
  have := World.block_lt_of_cell? w _ hc
  dsimp only at this ⊢
  omega
 ·have := blks_lt (h.zones.at_ z hz).free h0 a ha; omega
 ·have := nums_lt (h.zones.at_ z hz).types h0 a ha; omega
 ·have := nums_lt h.mins h0 a ha; omega
 ·have := nums_lt (h.lists.at_ l hl) h0 a ha; omega
 have := blks_lt h.live h0 a ha; omega
theorem Kit.Bu2.new {g z b : Nat} {w w' w'' : World} (h : Bu2 g z w w') (hb : But b w' w'') (hn : w.heap.size ≤ b) : Bu2 g z w w'' :=
 ⟨hb.os.trans h.os, hb.tape.trans h.tape, hb.output.trans h.output, Nat.le_trans h.size hb.size, fun k hk h1 h2 => (hb.block k (Nat.lt_of_lt_of_le hk h.size) (by omega)).trans (h.block k hk h1 h2)⟩
theorem wrL_but {lo : Option Addr} {gl g' : Nat} {w w' : World} (h : WrL lo g' w w') (he : ∀ a, lo = some a → a.block = gl) : But gl w w' := by
 rcases h with ⟨g, e, hb, _⟩ | ⟨e, hb, _⟩
 ·have := he _ e
  dsimp only at this
  subst this
  exact hb
 exact But.of_below hb
theorem wrL_where {lo : Option Addr} {gl g' n : Nat} {w w' : World} (h : WrL lo g' w w') (he : ∀ a, lo = some a → a.block = gl) (hn : n ≤ w.heap.size) : g' = gl ∨ n ≤ g' := by
 rcases h with ⟨g, e, _, h | h⟩ | ⟨e, _, h⟩
 ·have := he _ e
  exact .inl (h.trans this)
 ·exact .inr (by omega)
 exact .inr (by omega)
theorem bs_listH (a b c d : Value) (w : World) : (Instr.buildSlice 31 1 #[(0, .agg #[a, b, c, d])]).run Tryz.prog w = .ok (.slice (some ⟨w.heap.size, 0, none⟩) 1 1) (w.alloc (.cells #[a, b, c, d] 69)) := by
 simp [go_sem]
theorem map_eraseIdx {α β : Type} (f : α → β) (l : List α) (i : Nat) : (l.map f).eraseIdx i = (l.eraseIdx i).map f := by
 rw [List.eraseIdx_eq_take_drop_succ, List.eraseIdx_eq_take_drop_succ, List.map_append, List.map_take, List.map_drop]
theorem pSetList_f (w : World) (B gl hbk : Nat) (y : Hx) (x : Ls) (pv : Value) (po : Option Addr) (pn pc i : Nat) (rhbk : w.heap[hbk]? = some (.cells #[.slice y.zo y.zn y.zc, .slice y.mo y.mn y.mc, .int .i64 y.cpus, .slice y.lo y.ln y.lc, .slice y.vo y.vn y.vc] 34 (0, 0))) (ol : w.ownsRow B 69 4 (.slice y.lo y.ln y.lc) y.ln (c4 (y.ls.map Lc.q))) (el : ∀ a, y.lo = some a → a.block = gl) (hy : y.At w) (al : AwayL gl y) (ah : AwayL hbk y) (hhl : hbk ≠ gl) (hgw : gl < w.heap.size) (hord : RiseL y.ls)
    (hN : Nums w po pn x.pages) (hpl : 0 < x.pages.length → ∀ a, po = some a → a.block ≠ gl ∧ a.block ≠ hbk) (hB : B ≤ w.heap.size) (hln : y.ln ≤ 300) (hA : AtL y.hp.lists x i false) :
    Calls Tryz.prog 88 #[.pointer (some ⟨hbk, 0, none⟩), .agg #[.int .i64 x.c, .int .i64 x.z, .int .i64 x.t, pv], .slice po pn pc] w fun e w' => e = .returned (.tuple #[]) ∧ ∃ ls lo ln lc, w'.heap[hbk]? = some (.cells #[.slice y.zo y.zn y.zc, .slice y.mo y.mn y.mc, .int .i64 y.cpus, .slice lo ln lc, .slice y.vo y.vn y.vc] 34 (0, 0)) ∧ (y.withL ls lo ln lc).At w' ∧ ls.map (·.l) = setLs y.hp.lists x ∧ Bu2 hbk gl w w' ∧ (∀ a, lo = some a → a.block = gl ∨ w.heap.size ≤ a.block) ∧ ∀ l ∈ ls, l ∈ y.ls ∨ l = ⟨x, po, pn, pc⟩ := by
 have hy0 := hy
 have hr := HRest.of hy
 have hu := Bu2.refl hbk gl w
 have hlk := row_lt rhbk
 have hpo : 0 < x.pages.length → ∀ a, po = some a → a.block < w.heap.size := fun h0 a ha => nums_lt hN h0 a ha
 have hlo : ∀ a, y.lo = some a → a.block = gl ∧ a.block < w.heap.size := fun a ha => ⟨el a ha, (owns_blk ol a ha).2.1⟩
 have hil := hA.1
 have hll : y.hp.lists.length = y.ln := by show (y.ls.map _).length = _; rw [List.length_map]; exact hy.lists.len
 have hN0 := hN.len
 have hrp : RiseP y.hp.lists := riseP_of hord
 refine sx_enter (args := [_, _, _]) 44 Tryz.func88 rfl rfl rfl ?_
 refine vS (vR ?_); intro A f
 refine l_box f rfl rfl rfl rfl rfl ?_; clear f A; intro b1 W2 eb1 hb3 rb1 A f; dsimp only [Value.cells] at rb1
 have o_hbk_b1 : hbk < b1 := by have := row_lt rhbk; omega
 replace hu := hu.then hb3; replace hy := hy.below hb3; replace hr := hr.below hb3; replace hN := hN.below hb3; replace rhbk := row_next rhbk hb3; replace ol := owns_below ol hb3 (Nat.le_refl _)
 have ab4 : AwayL b1 y := awayL_old hy0 (by omega)
 revert A; refine vW (vS ?_); intro A f
 refine sx_quiet (by kernel_rfl) (by kernel_rfl) ?_
 revert A; refine vqm (h:=vqi (h:=vq5 (rowq rhbk) (h:=vq4 (rowq rb1) (h:=vqc (fun wx hx => (pListAt_c wx y x pv (hy.below hx) hord hA).mono (fun e w1 h1 => ⟨h1.1, Below.next hx h1.2⟩)) (h:=vqm (h:=vqe (h:=vqe (h:=vqa (h:=vqa (h:=vQ ?_)))))))))); intro W5 hb4; replace hu := hu.then hb4; replace hy := hy.below hb4; replace hr := hr.below hb4; replace hN := hN.below hb4; replace rhbk := row_next rhbk hb4; replace rb1 := row_next rb1 hb4; replace ol := owns_below ol hb4 (Nat.le_refl _)
 refine vT (vS (vS (vR (vlm (h:=vW (vD (h:=vK (vT (vS (vS (vR ?_)))))))))))
 obtain ⟨ls1, hls1⟩ : ∃ l, l = y.ls := ⟨_, rfl⟩
 obtain ⟨n1, hn1⟩ : ∃ n, n = y.ln := ⟨_, rfl⟩
 have ol1 := ol
 intro A f
 rw [← hls1, ← hn1] at ol1
 rw [← hn1] at rhbk
 clear ol hy
 have hm1 : ∀ l ∈ ls1, l ∈ y.ls := fun l hl => by rw [hls1] at hl; exact hl
 have hi1 : i ≤ n1 := by omega
 have hp1 : ls1.map (·.l) = y.hp.lists := by rw [hls1]; rfl
 clear hls1
 revert A; refine vlm (h:=vlz (h:=vlb (y_eql rfl rfl rfl) (h:=?_) (g:=?_)))
 ·intro c6
  refine vW (vC (h:=vE (vF ?_))); intro A f
  refine x_ret0 f rfl ?_
  exact ⟨rfl, ls1, y.lo, n1, y.lc, rhbk, at_withL hr ol1 (by omega) (fun l hl => hr.pages l (hm1 l hl)), by rw [hp1, setLs_at hrp hA]; rw [if_pos (by have := hN.len; omega)]; simp, hu, fun a ha => .inl (el a ha), fun l hl => .inl (hm1 l hl)⟩
 intro c6
 refine vW (vD (h:=vK (vT (vS (vR (vlm (h:=vlf (h:=?_)))))))); intro A f
 refine vls f rb1 ?_
 clear rb1; intro W7 hb8 rb1; dsimp only [setL, over, Value.cells] at rb1; replace rhbk := But.row hb8 rhbk (by omega); replace hu := Bu2.new hu hb8 (by omega); replace hr := hr.but ab4 hb8; replace hN := nums_but hN hb8 (fun h0 a ha => by have := hpo h0 a ha; omega); replace ol1 := owns_butN ol1 hb8 (fun a ha => by have := hlo a ha; omega)
 revert A; refine vW ?_
 have HSh : ∀ wx : World, (fun (wx : World) => wx.heap[hbk]? = some (.cells #[.slice y.zo y.zn y.zc, .slice y.mo y.mn y.mc, .int .i64 y.cpus, .slice y.lo n1 y.lc, .slice y.vo y.vn y.vc] 34 (0, 0)) ∧ wx.heap[b1]? = some (.cells #[.int .i64 x.c, .int .i64 x.z, .int .i64 x.t, .slice po pn pc] 69 (0, 0))) wx → wx.heap[hbk]? = some (.cells #[.slice y.zo y.zn y.zc, .slice y.mo y.mn y.mc, .int .i64 y.cpus, .slice y.lo n1 y.lc, .slice y.vo y.vn y.vc] 34 (0, 0)) := fun wx h => h.1
 have HS4 : ∀ wx : World, (fun (wx : World) => wx.heap[hbk]? = some (.cells #[.slice y.zo y.zn y.zc, .slice y.mo y.mn y.mc, .int .i64 y.cpus, .slice y.lo n1 y.lc, .slice y.vo y.vn y.vc] 34 (0, 0)) ∧ wx.heap[b1]? = some (.cells #[.int .i64 x.c, .int .i64 x.z, .int .i64 x.t, .slice po pn pc] 69 (0, 0))) wx → wx.heap[b1]? = some (.cells #[.int .i64 x.c, .int .i64 x.z, .int .i64 x.t, .slice po pn pc] 69 (0, 0)) := fun wx h => h.2
 intro A f
 refine sx_heldl (n := 11) (fun (wx : World) => wx.heap[hbk]? = some (.cells #[.slice y.zo y.zn y.zc, .slice y.mo y.mn y.mc, .int .i64 y.cpus, .slice y.lo n1 y.lc, .slice y.vo y.vn y.vc] 34 (0, 0)) ∧ wx.heap[b1]? = some (.cells #[.int .i64 x.c, .int .i64 x.z, .int .i64 x.t, .slice po pn pc] 69 (0, 0))) [7, 8] (by kernel_rfl) (by kernel_rfl) rfl (by kernel_rfl) (blind_body) (⟨row_next rhbk ((Below.refl _ _).drew), row_next rb1 ((Below.refl _ _).drew)⟩) ?_
 dsimp only [List.take]
 generalize hWd : ({ W7 with drawn := W7.drawn + 1 } : World) = W9
 have hdr := drawn_b hWd
 clear hWd
 replace hu := hu.then hdr; replace hr := hr.below hdr; replace hN := hN.below hdr; replace rhbk := row_next rhbk hdr; replace rb1 := row_next rb1 hdr; replace ol1 := owns_below ol1 hdr (Nat.le_refl _)
 revert A; refine vhm (h:=vhm (h:=vhi (h:=vhf (h:=vh1 HSh (h:=vhm (h:=vh4 HS4 (h:=?_)))))))
 obtain ⟨gv, hgv⟩ : ∃ g, g = W9.heap.size := ⟨_, rfl⟩
 have lhb := row_lt rhbk
 have lb4 := row_lt rb1
 have lou := hu.size
 intro A f
 refine h_opR (R := fun v W => v = .slice (some ⟨gv, 0, none⟩) 1 1 ∧ Below W9.heap.size W9 W ∧ W.heap[gv]? = some (.cells #[.int .i64 x.c, .int .i64 x.z, .int .i64 x.t, .slice po pn pc] 69 (0, 0))) f rfl rfl rfl rfl ⟨_, _, bs_exec f rfl rfl (bs_listH _ _ _ _ _), by rw [hgv], (Below.refl _ _).alloc (Nat.le_refl _) _, by rw [hgv]; show (Array.push _ _)[_]? = _; rw [Array.getElem?_push, if_pos rfl]⟩ ?_
 clear f A
 rintro _ W10 ⟨rfl, hb11, rgv⟩
 refine ⟨⟨row_next rhbk hb11, row_next rb1 hb11⟩, ?_⟩
 intro A f
 replace hu := hu.then hb11; replace hr := hr.below hb11; replace hN := hN.below hb11; replace rhbk := row_next rhbk hb11; replace rb1 := row_next rb1 hb11; replace ol1 := owns_below ol1 hb11 (Nat.le_refl _)
 refine h_call f rfl rfl rfl rfl (IsCall.mk' (cap := []) rfl rfl rfl) (pl rfl) (lIns_all _ B n1 y.lc i gv y.lo (ls1.map Lc.q) (Lc.q ⟨x, po, pn, pc⟩) hi1 (by omega) (lc_one _) ⟨rfl, rfl, rfl, rfl⟩ (by have := hu.size; omega) ol1 rgv (fun a ha => by have := hlo a ha; omega)) ?_
 clear f A
 rintro _ W12 ⟨g2, c2, rfl, ol2, hwr⟩
 have hug := hu.size
 have hb4g : b1 ≠ gl := by omega
 have hrow : But gl W10 W12 := wrL_but hwr (fun a ha => (hlo a ha).1)
 have hg2 : g2 = gl ∨ w.heap.size ≤ g2 := wrL_where hwr (fun a ha => (hlo a ha).1) (by omega)
 have hg3 : g2 ≠ hbk := by rcases hg2 with e | e <;> omega
 replace rhbk := But.row hrow rhbk hhl
 replace rb1 := But.row hrow rb1 hb4g
 replace hu := hu.trans (Bu2.of_but_z hrow)
 replace hr := hr.but al hrow
 replace hN := nums_but hN hrow (fun h0 a ha => (hpl h0 a ha).1)
 clear ol1
 refine ⟨_, rfl, ⟨rhbk, rb1⟩, ?_⟩
 refine vhi (h:=vhf (h:=vM ?_)); intro A f
 show Oper.wp _ _ _ _ _ _
 refine g_store f rfl rfl rfl rfl rhbk (sz rfl) rfl (Nat.le_of_ble_eq_true rfl) rfl ?_
 clear rhbk
 intro W13 hb14 rhbk
 dsimp only [setL, over, Value.cells] at rhbk
 replace hu := hu.trans (Bu2.of_but_g hb14)
 replace hr := hr.but ah hb14
 replace hN := nums_but hN hb14 (fun h0 a ha => (hpl h0 a ha).2)
 replace ol2 := owns_butN ol2 hb14 (fun a ha => by cases ha; dsimp only; omega)
 refine x_norm0 f rfl ?_
 have hq : insQ (ls1.map Lc.q) i (Lc.q ⟨x, po, pn, pc⟩) = (ls1.take i ++ ⟨x, po, pn, pc⟩ :: ls1.drop i).map Lc.q := by unfold insQ; rw [List.map_append, List.map_cons, List.map_take, List.map_drop]
 rw [hq] at ol2
 have hmm : ∀ l ∈ ls1.take i ++ ⟨x, po, pn, pc⟩ :: ls1.drop i, l ∈ y.ls ∨ l = ⟨x, po, pn, pc⟩ := fun l hl => by
  rcases List.mem_append.1 hl with h | h
  ·exact .inl (hm1 l (List.mem_of_mem_take h))
  rcases List.mem_cons.1 h with h | h
  ·exact .inr h
  exact .inl (hm1 l (List.mem_of_mem_drop h))
 refine ⟨rfl, _, _, _, _, rhbk, at_withL hr ol2 (by omega) (fun l hl => ?_), ?_, hu, fun a ha => by cases ha; exact hg2, hmm⟩
 ·rcases hmm l hl with h | rfl
  ·exact hr.pages l h
  exact hN
 rw [List.map_append, List.map_cons, List.map_take, List.map_drop, hp1, setLs_at hrp hA, if_neg (by have := hN.len; omega)]
 simp
theorem pSetList_t (w : World) (B gl hbk : Nat) (y : Hx) (x : Ls) (pv : Value) (po : Option Addr) (pn pc i : Nat) (rhbk : w.heap[hbk]? = some (.cells #[.slice y.zo y.zn y.zc, .slice y.mo y.mn y.mc, .int .i64 y.cpus, .slice y.lo y.ln y.lc, .slice y.vo y.vn y.vc] 34 (0, 0))) (ol : w.ownsRow B 69 4 (.slice y.lo y.ln y.lc) y.ln (c4 (y.ls.map Lc.q))) (el : ∀ a, y.lo = some a → a.block = gl) (hy : y.At w) (al : AwayL gl y) (ah : AwayL hbk y) (hhl : hbk ≠ gl) (hgw : gl < w.heap.size) (hord : RiseL y.ls)
    (hN : Nums w po pn x.pages) (hpl : 0 < x.pages.length → ∀ a, po = some a → a.block ≠ gl ∧ a.block ≠ hbk) (hB : B ≤ w.heap.size) (hln : y.ln ≤ 300) (hib : i < y.ln) (hA : AtL y.hp.lists x i true) :
    Calls Tryz.prog 88 #[.pointer (some ⟨hbk, 0, none⟩), .agg #[.int .i64 x.c, .int .i64 x.z, .int .i64 x.t, pv], .slice po pn pc] w fun e w' => e = .returned (.tuple #[]) ∧ ∃ ls lo ln lc, w'.heap[hbk]? = some (.cells #[.slice y.zo y.zn y.zc, .slice y.mo y.mn y.mc, .int .i64 y.cpus, .slice lo ln lc, .slice y.vo y.vn y.vc] 34 (0, 0)) ∧ (y.withL ls lo ln lc).At w' ∧ ls.map (·.l) = setLs y.hp.lists x ∧ Bu2 hbk gl w w' ∧ (∀ a, lo = some a → a.block = gl ∨ w.heap.size ≤ a.block) ∧ ∀ l ∈ ls, l ∈ y.ls ∨ l = ⟨x, po, pn, pc⟩ := by
 have hy0 := hy
 have hr := HRest.of hy
 have hu := Bu2.refl hbk gl w
 have hlk := row_lt rhbk
 have hpo : 0 < x.pages.length → ∀ a, po = some a → a.block < w.heap.size := fun h0 a ha => nums_lt hN h0 a ha
 have hlo : ∀ a, y.lo = some a → a.block = gl ∧ a.block < w.heap.size := fun a ha => ⟨el a ha, (owns_blk ol a ha).2.1⟩
 have hil := hA.1
 have hll : y.hp.lists.length = y.ln := by show (y.ls.map _).length = _; rw [List.length_map]; exact hy.lists.len
 have hN0 := hN.len
 have hrp : RiseP y.hp.lists := riseP_of hord
 refine sx_enter (args := [_, _, _]) 44 Tryz.func88 rfl rfl rfl ?_
 refine vS (vR ?_); intro A f
 refine l_box f rfl rfl rfl rfl rfl ?_; clear f A; intro b1 W2 eb1 hb3 rb1 A f; dsimp only [Value.cells] at rb1
 have o_hbk_b1 : hbk < b1 := by have := row_lt rhbk; omega
 replace hu := hu.then hb3; replace hy := hy.below hb3; replace hr := hr.below hb3; replace hN := hN.below hb3; replace rhbk := row_next rhbk hb3; replace ol := owns_below ol hb3 (Nat.le_refl _)
 have ab4 : AwayL b1 y := awayL_old hy0 (by omega)
 revert A; refine vW (vS ?_); intro A f
 refine sx_quiet (by kernel_rfl) (by kernel_rfl) ?_
 revert A; refine vqm (h:=vqi (h:=vq5 (rowq rhbk) (h:=vq4 (rowq rb1) (h:=vqc (fun wx hx => (pListAt_c wx y x pv (hy.below hx) hord hA).mono (fun e w1 h1 => ⟨h1.1, Below.next hx h1.2⟩)) (h:=vqm (h:=vqe (h:=vqe (h:=vqa (h:=vqa (h:=vQ ?_)))))))))); intro W5 hb4; replace hu := hu.then hb4; replace hy := hy.below hb4; replace hr := hr.below hb4; replace hN := hN.below hb4; replace rhbk := row_next rhbk hb4; replace rb1 := row_next rb1 hb4; replace ol := owns_below ol hb4 (Nat.le_refl _)
 refine vT (vS (vS (vR (vlm (h:=vW (vC (h:=vR (vlm (h:=vlm (h:=vli (h:=vlf (h:=vl1 (rowq rhbk) (h:=vlm (h:=vlm (h:=vlA (h:=?_)))))))))))))))); intro A f
 refine l_call f rfl rfl rfl (IsCall.mk' (cap := []) rfl rfl rfl) (pl rfl) (lDel_all _ B y.ln y.lc i y.lo (y.ls.map Lc.q) hib hln (lc_one _) ol) ?_
 clear f A
 rintro _ W6 ⟨g, hg, rfl, ol1, hb7⟩
 refine ⟨_, rfl, ?_⟩
 intro A f
 have hgg : g = gl := el _ hg
 rw [hgg] at hb7
 replace rhbk := But.row hb7 rhbk (by omega)
 replace rb1 := But.row hb7 rb1 (by omega)
 rw [map_eraseIdx] at ol1
 replace hu := hu.trans (Bu2.of_but_z hb7)
 replace hr := hr.but al hb7
 replace hN := nums_but hN hb7 (fun h0 a ha => (hpl h0 a ha).1)
 revert A; refine vli (h:=vlf (h:=?_)); intro A f
 refine vls f rhbk ?_
 clear rhbk; intro W8 hb9 rhbk; dsimp only [setL, over, Value.cells] at rhbk; replace rb1 := But.row hb9 rb1 (by omega); replace hu := hu.trans (Bu2.of_but_g hb9); replace hr := hr.but ah hb9; replace hN := nums_but hN hb9 (fun h0 a ha => (hpl h0 a ha).2); replace ol1 := owns_butN ol1 hb9 (fun a ha => by have := el a ha; omega)
 revert A; refine vW (vS (vS (vR ?_)))
 obtain ⟨ls1, hls1⟩ : ∃ l, l = y.ls.eraseIdx i := ⟨_, rfl⟩
 obtain ⟨n1, hn1⟩ : ∃ n, n = y.ln - 1 := ⟨_, rfl⟩
 intro A f
 rw [← hls1, ← hn1] at ol1
 rw [← hn1] at rhbk
 have hm1 : ∀ l ∈ ls1, l ∈ y.ls := fun l hl => by rw [hls1] at hl; exact List.mem_of_mem_eraseIdx hl
 have hi1 : i ≤ n1 := by omega
 have hp1 : ls1.map (·.l) = y.hp.lists.eraseIdx i := by rw [hls1]; show _ = (y.ls.map _).eraseIdx i; rw [map_eraseIdx]
 clear hls1
 revert A; refine vlm (h:=vlz (h:=vlb (y_eql rfl rfl rfl) (h:=?_) (g:=?_)))
 ·intro c10
  refine vW (vC (h:=vE (vF ?_))); intro A f
  refine x_ret0 f rfl ?_
  exact ⟨rfl, ls1, y.lo, n1, y.lc, rhbk, at_withL hr ol1 (by omega) (fun l hl => hr.pages l (hm1 l hl)), by rw [hp1, setLs_at hrp hA]; rw [if_pos (by have := hN.len; omega)]; simp, hu, fun a ha => .inl (el a ha), fun l hl => .inl (hm1 l hl)⟩
 intro c10
 refine vW (vD (h:=vK (vT (vS (vR (vlm (h:=vlf (h:=?_)))))))); intro A f
 refine vls f rb1 ?_
 clear rb1; intro W11 hb12 rb1; dsimp only [setL, over, Value.cells] at rb1; replace rhbk := But.row hb12 rhbk (by omega); replace hu := Bu2.new hu hb12 (by omega); replace hr := hr.but ab4 hb12; replace hN := nums_but hN hb12 (fun h0 a ha => by have := hpo h0 a ha; omega); replace ol1 := owns_butN ol1 hb12 (fun a ha => by have := hlo a ha; omega)
 revert A; refine vW ?_
 have HSh : ∀ wx : World, (fun (wx : World) => wx.heap[hbk]? = some (.cells #[.slice y.zo y.zn y.zc, .slice y.mo y.mn y.mc, .int .i64 y.cpus, .slice y.lo n1 y.lc, .slice y.vo y.vn y.vc] 34 (0, 0)) ∧ wx.heap[b1]? = some (.cells #[.int .i64 x.c, .int .i64 x.z, .int .i64 x.t, .slice po pn pc] 69 (0, 0))) wx → wx.heap[hbk]? = some (.cells #[.slice y.zo y.zn y.zc, .slice y.mo y.mn y.mc, .int .i64 y.cpus, .slice y.lo n1 y.lc, .slice y.vo y.vn y.vc] 34 (0, 0)) := fun wx h => h.1
 have HS4 : ∀ wx : World, (fun (wx : World) => wx.heap[hbk]? = some (.cells #[.slice y.zo y.zn y.zc, .slice y.mo y.mn y.mc, .int .i64 y.cpus, .slice y.lo n1 y.lc, .slice y.vo y.vn y.vc] 34 (0, 0)) ∧ wx.heap[b1]? = some (.cells #[.int .i64 x.c, .int .i64 x.z, .int .i64 x.t, .slice po pn pc] 69 (0, 0))) wx → wx.heap[b1]? = some (.cells #[.int .i64 x.c, .int .i64 x.z, .int .i64 x.t, .slice po pn pc] 69 (0, 0)) := fun wx h => h.2
 intro A f
 refine sx_heldl (n := 11) (fun (wx : World) => wx.heap[hbk]? = some (.cells #[.slice y.zo y.zn y.zc, .slice y.mo y.mn y.mc, .int .i64 y.cpus, .slice y.lo n1 y.lc, .slice y.vo y.vn y.vc] 34 (0, 0)) ∧ wx.heap[b1]? = some (.cells #[.int .i64 x.c, .int .i64 x.z, .int .i64 x.t, .slice po pn pc] 69 (0, 0))) [7, 8] (by kernel_rfl) (by kernel_rfl) rfl (by kernel_rfl) (blind_body) (⟨row_next rhbk ((Below.refl _ _).drew), row_next rb1 ((Below.refl _ _).drew)⟩) ?_
 dsimp only [List.take]
 generalize hWd : ({ W11 with drawn := W11.drawn + 1 } : World) = W13
 have hdr := drawn_b hWd
 clear hWd
 replace hu := hu.then hdr; replace hr := hr.below hdr; replace hN := hN.below hdr; replace rhbk := row_next rhbk hdr; replace rb1 := row_next rb1 hdr; replace ol1 := owns_below ol1 hdr (Nat.le_refl _)
 revert A; refine vhm (h:=vhm (h:=vhi (h:=vhf (h:=vh1 HSh (h:=vhm (h:=vh4 HS4 (h:=?_)))))))
 obtain ⟨gv, hgv⟩ : ∃ g, g = W13.heap.size := ⟨_, rfl⟩
 have lhb := row_lt rhbk
 have lb4 := row_lt rb1
 have lou := hu.size
 intro A f
 refine h_opR (R := fun v W => v = .slice (some ⟨gv, 0, none⟩) 1 1 ∧ Below W13.heap.size W13 W ∧ W.heap[gv]? = some (.cells #[.int .i64 x.c, .int .i64 x.z, .int .i64 x.t, .slice po pn pc] 69 (0, 0))) f rfl rfl rfl rfl ⟨_, _, bs_exec f rfl rfl (bs_listH _ _ _ _ _), by rw [hgv], (Below.refl _ _).alloc (Nat.le_refl _) _, by rw [hgv]; show (Array.push _ _)[_]? = _; rw [Array.getElem?_push, if_pos rfl]⟩ ?_
 clear f A
 rintro _ W14 ⟨rfl, hb15, rgv⟩
 refine ⟨⟨row_next rhbk hb15, row_next rb1 hb15⟩, ?_⟩
 intro A f
 replace hu := hu.then hb15; replace hr := hr.below hb15; replace hN := hN.below hb15; replace rhbk := row_next rhbk hb15; replace rb1 := row_next rb1 hb15; replace ol1 := owns_below ol1 hb15 (Nat.le_refl _)
 refine h_call f rfl rfl rfl rfl (IsCall.mk' (cap := []) rfl rfl rfl) (pl rfl) (lIns_all _ B n1 y.lc i gv y.lo (ls1.map Lc.q) (Lc.q ⟨x, po, pn, pc⟩) hi1 (by omega) (lc_one _) ⟨rfl, rfl, rfl, rfl⟩ (by have := hu.size; omega) ol1 rgv (fun a ha => by have := hlo a ha; omega)) ?_
 clear f A
 rintro _ W16 ⟨g2, c2, rfl, ol2, hwr⟩
 have hug := hu.size
 have hb4g : b1 ≠ gl := by omega
 have hrow : But gl W14 W16 := wrL_but hwr (fun a ha => (hlo a ha).1)
 have hg2 : g2 = gl ∨ w.heap.size ≤ g2 := wrL_where hwr (fun a ha => (hlo a ha).1) (by omega)
 have hg3 : g2 ≠ hbk := by rcases hg2 with e | e <;> omega
 replace rhbk := But.row hrow rhbk hhl
 replace rb1 := But.row hrow rb1 hb4g
 replace hu := hu.trans (Bu2.of_but_z hrow)
 replace hr := hr.but al hrow
 replace hN := nums_but hN hrow (fun h0 a ha => (hpl h0 a ha).1)
 clear ol1
 refine ⟨_, rfl, ⟨rhbk, rb1⟩, ?_⟩
 refine vhi (h:=vhf (h:=vM ?_)); intro A f
 show Oper.wp _ _ _ _ _ _
 refine g_store f rfl rfl rfl rfl rhbk (sz rfl) rfl (Nat.le_of_ble_eq_true rfl) rfl ?_
 clear rhbk
 intro W17 hb18 rhbk
 dsimp only [setL, over, Value.cells] at rhbk
 replace hu := hu.trans (Bu2.of_but_g hb18)
 replace hr := hr.but ah hb18
 replace hN := nums_but hN hb18 (fun h0 a ha => (hpl h0 a ha).2)
 replace ol2 := owns_butN ol2 hb18 (fun a ha => by cases ha; dsimp only; omega)
 refine x_norm0 f rfl ?_
 have hq : insQ (ls1.map Lc.q) i (Lc.q ⟨x, po, pn, pc⟩) = (ls1.take i ++ ⟨x, po, pn, pc⟩ :: ls1.drop i).map Lc.q := by unfold insQ; rw [List.map_append, List.map_cons, List.map_take, List.map_drop]
 rw [hq] at ol2
 have hmm : ∀ l ∈ ls1.take i ++ ⟨x, po, pn, pc⟩ :: ls1.drop i, l ∈ y.ls ∨ l = ⟨x, po, pn, pc⟩ := fun l hl => by
  rcases List.mem_append.1 hl with h | h
  ·exact .inl (hm1 l (List.mem_of_mem_take h))
  rcases List.mem_cons.1 h with h | h
  ·exact .inr h
  exact .inl (hm1 l (List.mem_of_mem_drop h))
 refine ⟨rfl, _, _, _, _, rhbk, at_withL hr ol2 (by omega) (fun l hl => ?_), ?_, hu, fun a ha => by cases ha; exact hg2, hmm⟩
 ·rcases hmm l hl with h | rfl
  ·exact hr.pages l h
  exact hN
 rw [List.map_append, List.map_cons, List.map_take, List.map_drop, hp1, setLs_at hrp hA, if_neg (by have := hN.len; omega)]
 simp
def Kit.Hx.withZ (y : Hx) (zs : List Zc) : Hx := { y with zs := zs }
theorem Kit.But.gr {g : Nat} {w w' w'' : World} (h : But g w w') (hb : Below w'.heap.size w' w'') : But g w w'' := h.trans (But.of_below hb)
def backs (H : Hp) : List Int → Hp
 | [] => H
 | p :: r => backs (backH H p 0) r
def CanBacks : Hp → List Int → Prop
 | _, [] => True
 | H, p :: r => CanBack H p 0 ∧ CanBacks (backH H p 0) r
theorem backs_append (H : Hp) : ∀ (l m : List Int), backs H (l ++ m) = backs (backs H l) m
 | [], _ => rfl
 | p :: r, m => by rw [List.cons_append]; exact backs_append (backH H p 0) r m
theorem canBacks_append {H : Hp} : ∀ {l m : List Int}, CanBacks H (l ++ m) ↔ CanBacks H l ∧ CanBacks (backs H l) m
 | [], m => by simp [CanBacks, backs]
 | p :: r, m => by
  have ih := canBacks_append (H := backH H p 0) (l := r) (m := m)
  simp only [List.cons_append, CanBacks, backs, ih, and_assoc]
theorem backs_take {H : Hp} {l : List Int} {k : Nat} (hk : k < l.length) {p : Int} (hp : l.getD k 0 = p) : backs H (l.take (k + 1)) = backH (backs H (l.take k)) p 0 := by
 rw [List.getD_eq_getElem?_getD, List.getElem?_eq_getElem hk] at hp
 rw [List.take_succ_eq_append_getElem hk, backs_append]
 simp only [Option.getD_some] at hp
 rw [hp]; rfl
theorem canBacks_at {H : Hp} {l : List Int} (h : CanBacks H l) {k : Nat} (hk : k < l.length) {p : Int} (hp : l.getD k 0 = p) : CanBack (backs H (l.take k)) p 0 := by
 rw [List.getD_eq_getElem?_getD, List.getElem?_eq_getElem hk] at hp
 simp only [Option.getD_some] at hp
 have e : l = l.take k ++ (p :: l.drop (k + 1)) := by rw [← hp, List.getElem_cons_drop, List.take_append_drop]
 rw [e, canBacks_append] at h
 exact h.2.1
theorem backs_lists (H : Hp) : ∀ (l : List Int), (backs H l).lists = H.lists ∧ (backs H l).mins = H.mins ∧ (backs H l).cpus = H.cpus ∧ (backs H l).live = H.live
 | [] => ⟨rfl, rfl, rfl, rfl⟩
 | p :: r => backs_lists (backH H p 0) r
theorem backH_ft (H : Hp) (p o : Int) (i : Nat) : ((backH H p o).zones.getD i ⟨0, 0, [], []⟩).f = (H.zones.getD i ⟨0, 0, [], []⟩).f ∧ ((backH H p o).zones.getD i ⟨0, 0, [], []⟩).t = (H.zones.getD i ⟨0, 0, [], []⟩).t := by
 unfold backH
 dsimp only
 simp only [List.getD_eq_getElem?_getD, List.getElem?_set]
 by_cases e : zIdx H p = i
 ·subst e
  by_cases h : zIdx H p < H.zones.length
  ·simp [h, backZ]
  simp [h]
 simp [e]
theorem backs_ft (i : Nat) : ∀ (l : List Int) (H : Hp), ((backs H l).zones.getD i ⟨0, 0, [], []⟩).f = (H.zones.getD i ⟨0, 0, [], []⟩).f ∧ ((backs H l).zones.getD i ⟨0, 0, [], []⟩).t = (H.zones.getD i ⟨0, 0, [], []⟩).t
 | [], H => ⟨rfl, rfl⟩
 | p :: r, H => by
  have h1 := backs_ft i r (backH H p 0)
  have h2 := backH_ft H p 0 i
  exact ⟨h1.1.trans h2.1, h1.2.trans h2.2⟩
def Adj (y : Hx) : Prop := (y.zs.getD 1 .zero).z.f = (y.zs.getD 0 .zero).z.t
end Go.Proofs.YtjohdbiipeedkaaGreatDoor
