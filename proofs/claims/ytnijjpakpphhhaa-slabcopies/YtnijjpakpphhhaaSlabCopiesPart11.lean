/-
  OWN TEXTS, bundled: SameS, WSlabCopies.
-/
import Derived.Test.YtnijjpakpphhhaaSlabCopiesPart6
import Derived.Test.YtnijjpakpphhhaaSlabCopiesPart7
import Derived.Test.YtnijjpakpphhhaaSlabCopiesPart10

/-
  OWN TEXT. Contract of paddocklaw.sameSystem, where both are the same (written by sxss.py).
-/
namespace Go.Proofs.Ytnijjpakpphhhaa
open Go Go.RowKit Go.Proofs.Ytnijjpakpphhhaa.Kit

theorem y_neqBk {C : World → Prop} {L : List (Nat × Value)} {o : Oper} {x y : Operand} {u : TypeId} {a b c : Int} (ho : o.op = .binOp .neq 49 x y u) (hx : ev L x = some (.agg #[.int .i64 a, .int .i64 b, .int .i64 c])) (hy : ev L y = some (.agg #[.int .i64 a, .int .i64 b, .int .i64 c])) : YC Try.prog C L o (.bool false) := by
  intro ρ hρ wx _
  simp [execOp, ho, hρ _ _ hx, hρ _ _ hy, eqGuard, go_sem]
theorem y_neqS0 {P : Program} {C : World → Prop} {L : List (Nat × Value)} {o : Oper} {t u : TypeId} {x y : Operand} {a : ByteArray} (ho : o.op = .binOp .neq t x y u) (hx : ev L x = some (.string a)) (hy : ev L y = some (.string a)) : YC P C L o (.bool false) := by
  have h := y_neqS (P := P) (C := C) ho hx hy
  rwa [decide_eq_false (fun h => h rfl)] at h
theorem c_dr {g : FuncId} {args : Array Value} {w : World} {v : Value} (h : Calls Try.prog g args w fun e w' => e = .returned v ∧ ∃ d, w' = w.drewN d) : Calls Try.prog g args w fun e w' => e = .returned v ∧ Below w.heap.size w w' :=
  h.mono fun _ _ ⟨h1, d, h2⟩ => ⟨h1, by rw [h2]; exact below_drewN (Below.refl _ _) d⟩
theorem getD_plain {l m : List Cc} (h : l.map (·.c) = m.map (·.c)) (k : Nat) : (l.getD k .zero).c = (m.getD k .zero).c := by
  have := congrArg (·.getD k Ch.zero) h
  simp only [List.getD_eq_getElem?_getD, List.getElem?_map] at this ⊢
  cases h1 : l[k]? <;> cases h2 : m[k]? <;> rw [h1, h2] at this <;> simpa [Cc.zero] using this

set_option maxRecDepth 10000 in
set_option maxHeartbeats 4000000 in
theorem sameSystem_eq (w : World) (x y : Sy) (hx : x.At w) (hy : y.At w) (he : x.sp = y.sp) :
    Calls Try.prog 9 #[.agg #[.slice x.wo x.wn x.wc, .slice x.h.zo x.h.zn x.h.zc, .slice x.h.mo x.h.mn x.h.mc, .int .i64 x.h.cpus, .slice x.h.lo x.h.ln x.h.lc, .slice x.h.vo x.h.vn x.h.vc, .slice x.co x.cn x.cc], .agg #[.slice y.wo y.wn y.wc, .slice y.h.zo y.h.zn y.h.zc, .slice y.h.mo y.h.mn y.h.mc, .int .i64 y.h.cpus, .slice y.h.lo y.h.ln y.h.lc, .slice y.h.vo y.h.vn y.h.vc, .slice y.co y.cn y.cc]] w fun e w' => e = .returned (.bool true) ∧ Below w.heap.size w w' := by
  have hw : x.words = y.words := congrArg Sp.words he
  have hh : x.h.hp = y.h.hp := congrArg Sp.h he
  have hpl : x.cs.map (·.c) = y.cs.map (·.c) := congrArg Sp.caches he
  have hwn : x.wn = y.wn := by have h1 := hx.words.len; have h2 := hy.words.len; rw [hw] at h1; omega
  have hcn : x.cn = y.cn := by have h1 := hx.caches.len; have h2 := hy.caches.len; have h3 := congrArg List.length hpl; simp only [List.length_map] at h3; omega
  have hcr := hx.caches.reach
  have B0 := Below.refl w.heap.size w
  refine sx_enter (args := [_, _]) 131 Try.func9 rfl rfl rfl ?_
  intro A f
  refine wp_seq ?_
  refine sx_list ?_
  refine l_box f rfl rfl rfl rfl rfl ?_; clear f A; intro b1 W2 eb1 hb3 rb1 A f; dsimp only [Value.cells] at rb1
  have z_B0_b1 := B0.size; rw [eb1] at z_B0_b1
  replace B0 := Below.next B0 hb3
  refine l_box f rfl rfl rfl rfl rfl ?_; clear f A; intro b4 W5 eb4 hb6 rb4 A f; dsimp only [Value.cells] at rb4
  have o_b1_b4 : b1 < b4 := by have := row_lt rb1; omega
  have z_B0_b4 := B0.size; rw [eb4] at z_B0_b4
  replace B0 := Below.next B0 hb6; replace rb1 := row_next rb1 hb6
  refine l_do f rfl rfl rfl (y_assign rfl rfl) ?_; clear f A; intro A f
  refine wpList_nil ?_
  refine x_tn ?_
  refine wp_seq ?_
  refine wp_seq ?_
  refine sx_list ?_
  rw [← hwn, ← hcn] at rb4
  refine l_do f rfl rfl rfl (y_field rfl rfl (fo rfl)) ?_; clear f A; intro A f
  refine l_do f rfl rfl rfl (y_load1 rfl rfl (ag rfl) (rowl (rowq rb1) rfl)) ?_; clear f A; intro A f
  refine l_do f rfl rfl rfl (y_len rfl rfl (sl rfl)) ?_; clear f A; intro A f
  refine l_do f rfl rfl rfl (y_field rfl rfl (fo rfl)) ?_; clear f A; intro A f
  refine l_do f rfl rfl rfl (y_load1 rfl rfl (ag rfl) (rowl (rowq rb4) rfl)) ?_; clear f A; intro A f
  refine l_do f rfl rfl rfl (y_len rfl rfl (sl rfl)) ?_; clear f A; intro A f
  refine l_if _ f rfl rfl rfl (y_neq rfl rfl rfl) ?_ ?_
  · intro c7; exfalso; omega
  · clear f A; intro c7 A f
    refine l_do f rfl rfl rfl (y_move rfl rfl) ?_; clear f A; intro A f
    refine l_do f rfl rfl rfl (y_field rfl rfl (fo rfl)) ?_; clear f A; intro A f
    refine l_do f rfl rfl rfl (y_load1 rfl rfl (ag rfl) (rowl (rowq rb1) rfl)) ?_; clear f A; intro A f
    refine l_do f rfl rfl rfl (y_field rfl rfl (fo rfl)) ?_; clear f A; intro A f
    refine l_do f rfl rfl rfl (y_load1 rfl rfl (ag rfl) (rowl (rowq rb4) rfl)) ?_; clear f A; intro A f
    refine l_call f rfl rfl rfl (IsCall.mk' (cap := []) rfl rfl rfl) (pl rfl) (c_dr (same_eq _ x.wo y.wo x.wn x.wc y.wc x.words hx.words.len hx.words.reach (hx.words.below B0).at_ (by have h := (hy.words.below B0).at_; rwa [← hw] at h))) ?_; clear f A; rintro _ W8 ⟨rfl, hb9⟩; refine ⟨_, rfl, ?_⟩; intro A f; replace B0 := Below.next B0 hb9; replace rb1 := row_next rb1 hb9; replace rb4 := row_next rb4 hb9
    refine l_do f rfl rfl rfl (y_not rfl rfl) ?_; clear f A; intro A f
    refine l_do f rfl rfl rfl (y_pick rfl rfl rfl) ?_; clear f A; intro A f
    refine l_do f rfl rfl rfl (y_move rfl rfl) ?_; clear f A; intro A f
    refine l_do f rfl rfl rfl (y_field rfl rfl (fo rfl)) ?_; clear f A; intro A f
    refine l_do f rfl rfl rfl (y_loadN (vs := [_, _, _, _, _]) rfl rfl (ag rfl) rfl (rowls (rowq rb1) _ _ ⟨rfl, rfl, rfl, rfl, rfl, trivial⟩)) ?_; clear f A; intro A f
    refine l_do f rfl rfl rfl (y_field rfl rfl (fo rfl)) ?_; clear f A; intro A f
    refine l_do f rfl rfl rfl (y_loadN (vs := [_, _, _, _, _]) rfl rfl (ag rfl) rfl (rowls (rowq rb4) _ _ ⟨rfl, rfl, rfl, rfl, rfl, trivial⟩)) ?_; clear f A; intro A f
    refine l_call f rfl rfl rfl (IsCall.mk' (cap := []) rfl rfl rfl) (pl rfl) (sameHeap_eq _ x.h y.h (hx.heap.below B0) (hy.heap.below B0) hh) ?_; clear f A; rintro _ W10 ⟨rfl, hb11⟩; refine ⟨_, rfl, ?_⟩; intro A f; replace B0 := Below.next B0 hb11; replace rb1 := row_next rb1 hb11; replace rb4 := row_next rb4 hb11
    refine l_do f rfl rfl rfl (y_not rfl rfl) ?_; clear f A; intro A f
    refine l_do f rfl rfl rfl (y_pick rfl rfl rfl) ?_; clear f A; intro A f
    refine wpList_nil ?_
    refine x_tn ?_
    refine x_condF f rfl ?_
    refine wp_skip ?_
    refine x_tn ?_
    refine wp_seq ?_
    refine wp_seq ?_
    refine sx_list ?_
    refine l_do f rfl rfl rfl (y_assign rfl rfl) ?_; clear f A; intro A f
    refine wpList_nil ?_
    refine x_tn ?_
    refine wp_block ?_
    refine x_loop (fun n A W => ∃ k : Nat, n = x.cn - k ∧ k ≤ x.cn ∧ Fr A 131 [(2, .pointer (some ⟨b1, 0, none⟩)), (3, .pointer (some ⟨b4, 0, none⟩)), (5, .int .i64 (k : Nat))] ∧ Below w.heap.size w W ∧ W.heap[b1]? = some (.cells #[.slice x.wo x.wn x.wc, .slice x.h.zo x.h.zn x.h.zc, .slice x.h.mo x.h.mn x.h.mc, .int .i64 x.h.cpus, .slice x.h.lo x.h.ln x.h.lc, .slice x.h.vo x.h.vn x.h.vc, .slice x.co x.cn x.cc] 30 (0, 0)) ∧ W.heap[b4]? = some (.cells #[.slice y.wo x.wn y.wc, .slice y.h.zo y.h.zn y.h.zc, .slice y.h.mo y.h.mn y.h.mc, .int .i64 y.h.cpus, .slice y.h.lo y.h.ln y.h.lc, .slice y.h.vo y.h.vn y.h.vc, .slice y.co x.cn y.cc] 30 (0, 0))) (n0 := x.cn) (⟨0, rfl, Nat.zero_le _, f.sub ⟨rfl, rfl, rfl, trivial⟩, B0, rb1, rb4⟩) ?_
    clear f A
    clear B0 rb1 rb4
    rintro n A W12 ⟨k, hn, hk, f, B0, rb1, rb4⟩
    refine wp_seq ?_
    refine wp_seq ?_
    refine sx_list ?_
    refine l_do f rfl rfl rfl (y_move rfl rfl) ?_; clear f A; intro A f
    refine l_do f rfl rfl rfl (y_field rfl rfl (fo rfl)) ?_; clear f A; intro A f
    refine l_do f rfl rfl rfl (y_load1 rfl rfl (ag rfl) (rowl (rowq rb1) rfl)) ?_; clear f A; intro A f
    refine l_do f rfl rfl rfl (y_len rfl rfl (sl rfl)) ?_; clear f A; intro A f
    refine l_if _ f rfl rfl rfl (y_lss rfl rfl rfl) ?_ ?_
    · clear f A; intro c13 A f
      refine wpList_nil ?_
      refine x_tn ?_
      refine x_condT f rfl ?_
      refine wp_skip ?_
      refine x_tn ?_
      refine wp_seq ?_
      refine wp_block ?_
      refine wp_seq ?_
      refine sx_list ?_
      refine l_do f rfl rfl rfl (y_field rfl rfl (fo rfl)) ?_; clear f A; intro A f
      refine l_do f rfl rfl rfl (y_load1 rfl rfl (ag rfl) (rowl (rowq rb1) rfl)) ?_; clear f A; intro A f
      refine l_do f rfl rfl rfl (y_move rfl rfl) ?_; clear f A; intro A f
      obtain ⟨ga, oa, nma, sza, pra, ora, sla, aca, noa, nna, nca, soa, sna, sca, aoa, ana, aka, haa, c0a, c1a, c2a, c3a, c4a, c5a, hNa, hBa, hAa, hXa⟩ := (hx.caches).at (k) (by omega)
      replace c0a := St.of c0a; replace c1a := St.of c1a; replace c2a := St.of c2a; replace c3a := St.of c3a; replace c4a := St.of c4a; replace c5a := St.of c5a
      obtain ⟨gb, ob, nmb, szb, prb, orb, slb, acb, nob, nnb, ncb, sob, snb, scb, aob, anb, akb, hab, c0b, c1b, c2b, c3b, c4b, c5b, hNb, hBb, hAb, hXb⟩ := (hy.caches).at (k) (by omega)
      replace c0b := St.of c0b; replace c1b := St.of c1b; replace c2b := St.of c2b; replace c3b := St.of c3b; replace c4b := St.of c4b; replace c5b := St.of c5b
      have hab := getD_plain hpl k
      rw [hXa.out, hXb.out] at hab
      cases hab
      have l1 := hNa.len
      have l2 := hNb.len
      have l3 := hBa.len
      have l4 := hBb.len
      have l5 := hAa.len
      have l6 := hAb.len
      obtain rfl : nna = nnb := by omega
      obtain rfl : sna = snb := by omega
      obtain rfl : ana = anb := by omega
      have rN := hNa.reach
      have rB := hBa.reach
      refine l_do f rfl rfl rfl (y_index rfl rfl (by first | rfl | assumption) rfl (es rfl) (by omega)) ?_; clear f A; intro A f
      refine l_do f rfl rfl rfl (y_loadN (vs := [_, _, _, _, _, _]) rfl rfl (ag rfl) rfl ⟨(by first | assumption | exact St.q c0a B0 | exact St.q c1a B0 | exact St.q c2a B0 | exact St.q c3a B0 | exact St.q c4a B0 | exact St.q c5a B0 | exact St.q c0b B0 | exact St.q c1b B0 | exact St.q c2b B0 | exact St.q c3b B0 | exact St.q c4b B0 | exact St.q c5b B0), (by first | assumption | exact St.q c0a B0 | exact St.q c1a B0 | exact St.q c2a B0 | exact St.q c3a B0 | exact St.q c4a B0 | exact St.q c5a B0 | exact St.q c0b B0 | exact St.q c1b B0 | exact St.q c2b B0 | exact St.q c3b B0 | exact St.q c4b B0 | exact St.q c5b B0), (by first | assumption | exact St.q c0a B0 | exact St.q c1a B0 | exact St.q c2a B0 | exact St.q c3a B0 | exact St.q c4a B0 | exact St.q c5a B0 | exact St.q c0b B0 | exact St.q c1b B0 | exact St.q c2b B0 | exact St.q c3b B0 | exact St.q c4b B0 | exact St.q c5b B0), (by first | assumption | exact St.q c0a B0 | exact St.q c1a B0 | exact St.q c2a B0 | exact St.q c3a B0 | exact St.q c4a B0 | exact St.q c5a B0 | exact St.q c0b B0 | exact St.q c1b B0 | exact St.q c2b B0 | exact St.q c3b B0 | exact St.q c4b B0 | exact St.q c5b B0), (by first | assumption | exact St.q c0a B0 | exact St.q c1a B0 | exact St.q c2a B0 | exact St.q c3a B0 | exact St.q c4a B0 | exact St.q c5a B0 | exact St.q c0b B0 | exact St.q c1b B0 | exact St.q c2b B0 | exact St.q c3b B0 | exact St.q c4b B0 | exact St.q c5b B0), (by first | assumption | exact St.q c0a B0 | exact St.q c1a B0 | exact St.q c2a B0 | exact St.q c3a B0 | exact St.q c4a B0 | exact St.q c5a B0 | exact St.q c0b B0 | exact St.q c1b B0 | exact St.q c2b B0 | exact St.q c3b B0 | exact St.q c4b B0 | exact St.q c5b B0), trivial⟩) ?_; clear f A; intro A f
      refine l_as (z := .agg #[.slice none 0 0, .int .i64 0, .int .i64 0, .int .i64 0, .slice none 0 0, .slice none 0 0]) f rfl rfl rfl rfl (by kernel_rfl) rfl rfl (fun _ => rfl) (fun _ => rfl) rfl (by intro u hu; simp [Value.cells] at hu; rcases hu with rfl | rfl | rfl | rfl | rfl | rfl <;> rfl) ?_; clear f A; intro b14 W15 eb14 hb16 rb14 A f
      dsimp only [Value.cells] at rb14
      have hpb14 := hb16
      have o_b1_b14 : b1 < b14 := by have := row_lt rb1; omega
      have o_b4_b14 : b4 < b14 := by have := row_lt rb4; omega
      have z_B0_b14 := B0.size; rw [eb14] at z_B0_b14
      replace B0 := Below.next B0 hb16; replace rb1 := row_next rb1 hb16; replace rb4 := row_next rb4 hb16
      refine wpList_nil ?_
      refine x_tn ?_
      refine wp_seq ?_
      refine sx_list ?_
      refine l_do f rfl rfl rfl (y_field rfl rfl (fo rfl)) ?_; clear f A; intro A f
      refine l_do f rfl rfl rfl (y_load1 rfl rfl (ag rfl) (rowl (rowq rb4) rfl)) ?_; clear f A; intro A f
      refine l_do f rfl rfl rfl (y_move rfl rfl) ?_; clear f A; intro A f
      refine l_do f rfl rfl rfl (y_index rfl rfl (by first | rfl | assumption) rfl (es rfl) (by omega)) ?_; clear f A; intro A f
      refine l_do f rfl rfl rfl (y_loadN (vs := [_, _, _, _, _, _]) rfl rfl (ag rfl) rfl ⟨(by first | assumption | exact St.q c0a B0 | exact St.q c1a B0 | exact St.q c2a B0 | exact St.q c3a B0 | exact St.q c4a B0 | exact St.q c5a B0 | exact St.q c0b B0 | exact St.q c1b B0 | exact St.q c2b B0 | exact St.q c3b B0 | exact St.q c4b B0 | exact St.q c5b B0), (by first | assumption | exact St.q c0a B0 | exact St.q c1a B0 | exact St.q c2a B0 | exact St.q c3a B0 | exact St.q c4a B0 | exact St.q c5a B0 | exact St.q c0b B0 | exact St.q c1b B0 | exact St.q c2b B0 | exact St.q c3b B0 | exact St.q c4b B0 | exact St.q c5b B0), (by first | assumption | exact St.q c0a B0 | exact St.q c1a B0 | exact St.q c2a B0 | exact St.q c3a B0 | exact St.q c4a B0 | exact St.q c5a B0 | exact St.q c0b B0 | exact St.q c1b B0 | exact St.q c2b B0 | exact St.q c3b B0 | exact St.q c4b B0 | exact St.q c5b B0), (by first | assumption | exact St.q c0a B0 | exact St.q c1a B0 | exact St.q c2a B0 | exact St.q c3a B0 | exact St.q c4a B0 | exact St.q c5a B0 | exact St.q c0b B0 | exact St.q c1b B0 | exact St.q c2b B0 | exact St.q c3b B0 | exact St.q c4b B0 | exact St.q c5b B0), (by first | assumption | exact St.q c0a B0 | exact St.q c1a B0 | exact St.q c2a B0 | exact St.q c3a B0 | exact St.q c4a B0 | exact St.q c5a B0 | exact St.q c0b B0 | exact St.q c1b B0 | exact St.q c2b B0 | exact St.q c3b B0 | exact St.q c4b B0 | exact St.q c5b B0), (by first | assumption | exact St.q c0a B0 | exact St.q c1a B0 | exact St.q c2a B0 | exact St.q c3a B0 | exact St.q c4a B0 | exact St.q c5a B0 | exact St.q c0b B0 | exact St.q c1b B0 | exact St.q c2b B0 | exact St.q c3b B0 | exact St.q c4b B0 | exact St.q c5b B0), trivial⟩) ?_; clear f A; intro A f
      refine l_as (z := .agg #[.slice none 0 0, .int .i64 0, .int .i64 0, .int .i64 0, .slice none 0 0, .slice none 0 0]) f rfl rfl rfl rfl (by kernel_rfl) rfl rfl (fun _ => rfl) (fun _ => rfl) rfl (by intro u hu; simp [Value.cells] at hu; rcases hu with rfl | rfl | rfl | rfl | rfl | rfl <;> rfl) ?_; clear f A; intro b17 W18 eb17 hb19 rb17 A f
      dsimp only [Value.cells] at rb17
      have hpb17 := hb19
      have o_b1_b17 : b1 < b17 := by have := row_lt rb1; omega
      have o_b4_b17 : b4 < b17 := by have := row_lt rb4; omega
      have o_b14_b17 : b14 < b17 := by have := row_lt rb14; omega
      have z_B0_b17 := B0.size; rw [eb17] at z_B0_b17
      replace B0 := Below.next B0 hb19; replace rb1 := row_next rb1 hb19; replace rb4 := row_next rb4 hb19; replace rb14 := row_next rb14 hb19
      refine wpList_nil ?_
      refine x_tn ?_
      refine wp_seq ?_
      refine wp_seq ?_
      refine sx_list ?_
      refine l_do f rfl rfl rfl (y_field rfl rfl (fo rfl)) ?_; clear f A; intro A f
      refine l_do f rfl rfl rfl (y_load1 rfl rfl (ag rfl) (rowl (rowq rb14) rfl)) ?_; clear f A; intro A f
      refine l_do f rfl rfl rfl (y_field rfl rfl (fo rfl)) ?_; clear f A; intro A f
      refine l_do f rfl rfl rfl (y_load1 rfl rfl (ag rfl) (rowl (rowq rb17) rfl)) ?_; clear f A; intro A f
      refine l_if _ f rfl rfl rfl (y_neq rfl rfl rfl) ?_ ?_
      · intro c20; exfalso; omega
      · clear f A; intro c20 A f
        refine l_do f rfl rfl rfl (y_move rfl rfl) ?_; clear f A; intro A f
        refine l_do f rfl rfl rfl (y_field rfl rfl (fo rfl)) ?_; clear f A; intro A f
        refine l_do f rfl rfl rfl (y_load1 rfl rfl (ag rfl) (rowl (rowq rb14) rfl)) ?_; clear f A; intro A f
        refine l_do f rfl rfl rfl (y_field rfl rfl (fo rfl)) ?_; clear f A; intro A f
        refine l_do f rfl rfl rfl (y_load1 rfl rfl (ag rfl) (rowl (rowq rb17) rfl)) ?_; clear f A; intro A f
        refine l_if _ f rfl rfl rfl (y_neq rfl rfl rfl) ?_ ?_
        · intro c21; exfalso; omega
        · clear f A; intro c21 A f
          refine l_do f rfl rfl rfl (y_pick rfl rfl rfl) ?_; clear f A; intro A f
          refine l_do f rfl rfl rfl (y_move rfl rfl) ?_; clear f A; intro A f
          refine l_do f rfl rfl rfl (y_field rfl rfl (fo rfl)) ?_; clear f A; intro A f
          refine l_do f rfl rfl rfl (y_load1 rfl rfl (ag rfl) (rowl (rowq rb14) rfl)) ?_; clear f A; intro A f
          refine l_do f rfl rfl rfl (y_field rfl rfl (fo rfl)) ?_; clear f A; intro A f
          refine l_do f rfl rfl rfl (y_load1 rfl rfl (ag rfl) (rowl (rowq rb17) rfl)) ?_; clear f A; intro A f
          refine l_if _ f rfl rfl rfl (y_neq rfl rfl rfl) ?_ ?_
          · intro c22; exfalso; omega
          · clear f A; intro c22 A f
            refine l_do f rfl rfl rfl (y_pick rfl rfl rfl) ?_; clear f A; intro A f
            refine l_do f rfl rfl rfl (y_move rfl rfl) ?_; clear f A; intro A f
            refine l_do f rfl rfl rfl (y_field rfl rfl (fo rfl)) ?_; clear f A; intro A f
            refine l_do f rfl rfl rfl (y_load1 rfl rfl (ag rfl) (rowl (rowq rb14) rfl)) ?_; clear f A; intro A f
            refine l_do f rfl rfl rfl (y_len rfl rfl (sl rfl)) ?_; clear f A; intro A f
            refine l_do f rfl rfl rfl (y_field rfl rfl (fo rfl)) ?_; clear f A; intro A f
            refine l_do f rfl rfl rfl (y_load1 rfl rfl (ag rfl) (rowl (rowq rb17) rfl)) ?_; clear f A; intro A f
            refine l_do f rfl rfl rfl (y_len rfl rfl (sl rfl)) ?_; clear f A; intro A f
            refine l_if _ f rfl rfl rfl (y_neq rfl rfl rfl) ?_ ?_
            · intro c23; exfalso; omega
            · clear f A; intro c23 A f
              refine l_do f rfl rfl rfl (y_pick rfl rfl rfl) ?_; clear f A; intro A f
              refine l_do f rfl rfl rfl (y_move rfl rfl) ?_; clear f A; intro A f
              refine l_do f rfl rfl rfl (y_field rfl rfl (fo rfl)) ?_; clear f A; intro A f
              refine l_do f rfl rfl rfl (y_load1 rfl rfl (ag rfl) (rowl (rowq rb14) rfl)) ?_; clear f A; intro A f
              refine l_do f rfl rfl rfl (y_len rfl rfl (sl rfl)) ?_; clear f A; intro A f
              refine l_do f rfl rfl rfl (y_field rfl rfl (fo rfl)) ?_; clear f A; intro A f
              refine l_do f rfl rfl rfl (y_load1 rfl rfl (ag rfl) (rowl (rowq rb17) rfl)) ?_; clear f A; intro A f
              refine l_do f rfl rfl rfl (y_len rfl rfl (sl rfl)) ?_; clear f A; intro A f
              refine l_if _ f rfl rfl rfl (y_neq rfl rfl rfl) ?_ ?_
              · intro c24; exfalso; omega
              · clear f A; intro c24 A f
                refine l_do f rfl rfl rfl (y_pick rfl rfl rfl) ?_; clear f A; intro A f
                refine l_do f rfl rfl rfl (y_move rfl rfl) ?_; clear f A; intro A f
                refine l_do f rfl rfl rfl (y_field rfl rfl (fo rfl)) ?_; clear f A; intro A f
                refine l_do f rfl rfl rfl (y_load1 rfl rfl (ag rfl) (rowl (rowq rb14) rfl)) ?_; clear f A; intro A f
                refine l_do f rfl rfl rfl (y_field rfl rfl (fo rfl)) ?_; clear f A; intro A f
                refine l_do f rfl rfl rfl (y_load1 rfl rfl (ag rfl) (rowl (rowq rb17) rfl)) ?_; clear f A; intro A f
                refine l_call f rfl rfl rfl (IsCall.mk' (cap := []) rfl rfl rfl) (pl rfl) (c_dr (same_eq _ aoa aob ana aka akb aca hAa.len hAa.reach (hAa.below B0).at_ (hAb.below B0).at_)) ?_; clear f A; rintro _ W25 ⟨rfl, hb26⟩; refine ⟨_, rfl, ?_⟩; intro A f; replace B0 := Below.next B0 hb26; replace rb1 := row_next rb1 hb26; replace rb4 := row_next rb4 hb26; replace rb14 := row_next rb14 hb26; replace rb17 := row_next rb17 hb26
                refine l_do f rfl rfl rfl (y_not rfl rfl) ?_; clear f A; intro A f
                refine l_do f rfl rfl rfl (y_pick rfl rfl rfl) ?_; clear f A; intro A f
                refine wpList_nil ?_
                refine x_tn ?_
                refine x_condF f rfl ?_
                refine wp_skip ?_
                refine x_tn ?_
                refine wp_seq ?_
                refine wp_seq ?_
                refine sx_list ?_
                refine l_do f rfl rfl rfl (y_assign rfl rfl) ?_; clear f A; intro A f
                refine wpList_nil ?_
                refine x_tn ?_
                refine wp_block ?_
                refine x_loop (fun n A W => ∃ j : Nat, n = nna - j ∧ j ≤ nna ∧ Fr A 131 [(2, .pointer (some ⟨b1, 0, none⟩)), (3, .pointer (some ⟨b4, 0, none⟩)), (5, .int .i64 (k : Nat)), (6, .pointer (some ⟨b14, 0, none⟩)), (7, .pointer (some ⟨b17, 0, none⟩)), (8, .int .i64 (j : Nat))] ∧ Below w.heap.size w W ∧ W.heap[b1]? = some (.cells #[.slice x.wo x.wn x.wc, .slice x.h.zo x.h.zn x.h.zc, .slice x.h.mo x.h.mn x.h.mc, .int .i64 x.h.cpus, .slice x.h.lo x.h.ln x.h.lc, .slice x.h.vo x.h.vn x.h.vc, .slice x.co x.cn x.cc] 30 (0, 0)) ∧ W.heap[b4]? = some (.cells #[.slice y.wo x.wn y.wc, .slice y.h.zo y.h.zn y.h.zc, .slice y.h.mo y.h.mn y.h.mc, .int .i64 y.h.cpus, .slice y.h.lo y.h.ln y.h.lc, .slice y.h.vo y.h.vn y.h.vc, .slice y.co x.cn y.cc] 30 (0, 0)) ∧ W.heap[b14]? = some (.cells #[.slice noa nna nca, .int .i64 sza, .int .i64 pra, .int .i64 ora, .slice soa sna sca, .slice aoa ana aka] 45 (0, 0)) ∧ W.heap[b17]? = some (.cells #[.slice nob nna ncb, .int .i64 sza, .int .i64 pra, .int .i64 ora, .slice sob sna scb, .slice aob ana akb] 45 (0, 0))) (n0 := nna) (⟨0, rfl, Nat.zero_le _, f.sub ⟨rfl, rfl, rfl, rfl, rfl, rfl, trivial⟩, B0, rb1, rb4, rb14, rb17⟩) ?_
                clear f A
                clear B0 rb1 rb4 rb14 rb17
                rintro n2 A W27 ⟨j, hn2, hj, f, B0, rb1, rb4, rb14, rb17⟩
                refine wp_seq ?_
                refine wp_seq ?_
                refine sx_list ?_
                refine l_do f rfl rfl rfl (y_move rfl rfl) ?_; clear f A; intro A f
                refine l_do f rfl rfl rfl (y_field rfl rfl (fo rfl)) ?_; clear f A; intro A f
                refine l_do f rfl rfl rfl (y_load1 rfl rfl (ag rfl) (rowl (rowq rb14) rfl)) ?_; clear f A; intro A f
                refine l_do f rfl rfl rfl (y_len rfl rfl (sl rfl)) ?_; clear f A; intro A f
                refine l_if _ f rfl rfl rfl (y_lss rfl rfl rfl) ?_ ?_
                · clear f A; intro c28 A f
                  refine wpList_nil ?_
                  refine x_tn ?_
                  refine x_condT f rfl ?_
                  refine wp_skip ?_
                  refine x_tn ?_
                  refine wp_seq ?_
                  refine wp_block ?_
                  refine wp_seq ?_
                  refine sx_quiet (by kernel_rfl) (by kernel_rfl) ?_
                  refine q_do f rfl rfl rfl (y_field rfl rfl (fo rfl)) ?_; clear f A; intro A f
                  refine q_do f rfl rfl rfl (y_load1 rfl rfl (ag rfl) (rowl (rowq rb14) rfl)) ?_; clear f A; intro A f
                  refine q_do f rfl rfl rfl (y_move rfl rfl) ?_; clear f A; intro A f
                  obtain ⟨gs, os, sa, has, q1, hS1⟩ := hNa.at j (by omega)
                  obtain ⟨gt, ot, sb, hat, q2, hS2⟩ := hNb.at j (by omega)
                  obtain rfl : sa = sb := hS1.out.symm.trans hS2.out
                  replace q1 := St.of q1
                  replace q2 := St.of q2
                  refine q_do f rfl rfl rfl (y_index rfl rfl (by first | rfl | assumption) rfl (es rfl) (by omega)) ?_; clear f A; intro A f
                  refine q_do f rfl rfl rfl (y_load1 rfl rfl (ag rfl) (by first | assumption | exact St.q c0a B0 | exact St.q c1a B0 | exact St.q c2a B0 | exact St.q c3a B0 | exact St.q c4a B0 | exact St.q c5a B0 | exact St.q c0b B0 | exact St.q c1b B0 | exact St.q c2b B0 | exact St.q c3b B0 | exact St.q c4b B0 | exact St.q c5b B0 | exact St.q q1 B0 | exact St.q q2 B0)) ?_; clear f A; intro A f
                  refine q_do f rfl rfl rfl (y_field rfl rfl (fo rfl)) ?_; clear f A; intro A f
                  refine q_do f rfl rfl rfl (y_load1 rfl rfl (ag rfl) (rowl (rowq rb17) rfl)) ?_; clear f A; intro A f
                  refine q_do f rfl rfl rfl (y_move rfl rfl) ?_; clear f A; intro A f
                  refine q_do f rfl rfl rfl (y_index rfl rfl (by first | rfl | assumption) rfl (es rfl) (by omega)) ?_; clear f A; intro A f
                  refine q_do f rfl rfl rfl (y_load1 rfl rfl (ag rfl) (by first | assumption | exact St.q c0a B0 | exact St.q c1a B0 | exact St.q c2a B0 | exact St.q c3a B0 | exact St.q c4a B0 | exact St.q c5a B0 | exact St.q c0b B0 | exact St.q c1b B0 | exact St.q c2b B0 | exact St.q c3b B0 | exact St.q c4b B0 | exact St.q c5b B0 | exact St.q q1 B0 | exact St.q q2 B0)) ?_; clear f A; intro A f
                  refine q_do f rfl rfl rfl (y_neqS0 rfl rfl rfl) ?_; clear f A; intro A f
                  refine wpQuiet_nil ?_; intro W30 hb29; replace B0 := Below.next B0 hb29; replace rb1 := row_next rb1 hb29; replace rb4 := row_next rb4 hb29; replace rb14 := row_next rb14 hb29; replace rb17 := row_next rb17 hb29
                  refine x_tn ?_
                  refine x_condF f rfl ?_
                  refine wp_skip ?_
                  refine x_bn ?_
                  refine x_tn ?_
                  refine sx_list ?_
                  refine l_do f rfl rfl rfl (y_move rfl rfl) ?_; clear f A; intro A f
                  refine l_do f rfl rfl rfl (y_add rfl rfl rfl rfl (by omega)) ?_; clear f A; intro A f
                  refine l_do f rfl rfl rfl (y_assign rfl rfl) ?_; clear f A; intro A f
                  refine wpList_nil ?_
                  refine x_tn ?_
                  exact ⟨nna - (j + 1), by omega, j + 1, rfl, by omega, f.sub ⟨rfl, rfl, rfl, rfl, rfl, rfl, trivial⟩, B0, rb1, rb4, rb14, rb17⟩
                · clear f A; intro c28 A f
                  refine wpList_nil ?_
                  refine x_tn ?_
                  refine x_condF f rfl ?_
                  refine wp_exit ?_
                  refine x_te ?_
                  refine x_te ?_
                  refine x_bh ?_
                  refine x_tn ?_
                  refine wp_seq ?_
                  refine sx_list ?_
                  refine l_do f rfl rfl rfl (y_assign rfl rfl) ?_; clear f A; intro A f
                  refine wpList_nil ?_
                  refine x_tn ?_
                  refine wp_block ?_
                  refine x_loop (fun n A W => ∃ j : Nat, n = sna - j ∧ j ≤ sna ∧ Fr A 131 [(2, .pointer (some ⟨b1, 0, none⟩)), (3, .pointer (some ⟨b4, 0, none⟩)), (5, .int .i64 (k : Nat)), (6, .pointer (some ⟨b14, 0, none⟩)), (7, .pointer (some ⟨b17, 0, none⟩)), (9, .int .i64 (j : Nat))] ∧ Below w.heap.size w W ∧ W.heap[b1]? = some (.cells #[.slice x.wo x.wn x.wc, .slice x.h.zo x.h.zn x.h.zc, .slice x.h.mo x.h.mn x.h.mc, .int .i64 x.h.cpus, .slice x.h.lo x.h.ln x.h.lc, .slice x.h.vo x.h.vn x.h.vc, .slice x.co x.cn x.cc] 30 (0, 0)) ∧ W.heap[b4]? = some (.cells #[.slice y.wo x.wn y.wc, .slice y.h.zo y.h.zn y.h.zc, .slice y.h.mo y.h.mn y.h.mc, .int .i64 y.h.cpus, .slice y.h.lo y.h.ln y.h.lc, .slice y.h.vo y.h.vn y.h.vc, .slice y.co x.cn y.cc] 30 (0, 0)) ∧ W.heap[b14]? = some (.cells #[.slice noa nna nca, .int .i64 sza, .int .i64 pra, .int .i64 ora, .slice soa sna sca, .slice aoa ana aka] 45 (0, 0)) ∧ W.heap[b17]? = some (.cells #[.slice nob nna ncb, .int .i64 sza, .int .i64 pra, .int .i64 ora, .slice sob sna scb, .slice aob ana akb] 45 (0, 0))) (n0 := sna) (⟨0, rfl, Nat.zero_le _, f.sub ⟨rfl, rfl, rfl, rfl, rfl, rfl, trivial⟩, B0, rb1, rb4, rb14, rb17⟩) ?_
                  clear f A
                  clear B0 rb1 rb4 rb14 rb17
                  rintro n2 A W31 ⟨j, hn2, hj, f, B0, rb1, rb4, rb14, rb17⟩
                  refine wp_seq ?_
                  refine wp_seq ?_
                  refine sx_list ?_
                  refine l_do f rfl rfl rfl (y_move rfl rfl) ?_; clear f A; intro A f
                  refine l_do f rfl rfl rfl (y_field rfl rfl (fo rfl)) ?_; clear f A; intro A f
                  refine l_do f rfl rfl rfl (y_load1 rfl rfl (ag rfl) (rowl (rowq rb14) rfl)) ?_; clear f A; intro A f
                  refine l_do f rfl rfl rfl (y_len rfl rfl (sl rfl)) ?_; clear f A; intro A f
                  refine l_if _ f rfl rfl rfl (y_lss rfl rfl rfl) ?_ ?_
                  · clear f A; intro c32 A f
                    refine wpList_nil ?_
                    refine x_tn ?_
                    refine x_condT f rfl ?_
                    refine wp_skip ?_
                    refine x_tn ?_
                    refine wp_seq ?_
                    refine wp_block ?_
                    refine wp_seq ?_
                    refine sx_quiet (by kernel_rfl) (by kernel_rfl) ?_
                    refine q_do f rfl rfl rfl (y_field rfl rfl (fo rfl)) ?_; clear f A; intro A f
                    refine q_do f rfl rfl rfl (y_load1 rfl rfl (ag rfl) (rowl (rowq rb14) rfl)) ?_; clear f A; intro A f
                    refine q_do f rfl rfl rfl (y_move rfl rfl) ?_; clear f A; intro A f
                    obtain ⟨gp, op, bap, bop, btp, hap, c0p, c1p, c2p, hXp⟩ := hBa.at_.at (j) (by have := hBa.len; omega)
                    replace c0p := St.of c0p; replace c1p := St.of c1p; replace c2p := St.of c2p
                    obtain ⟨gq, oq, baq, boq, btq, haq, c0q, c1q, c2q, hXq⟩ := hBb.at_.at (j) (by have := hBb.len; omega)
                    replace c0q := St.of c0q; replace c1q := St.of c1q; replace c2q := St.of c2q
                    have hpq := hXp.out.symm.trans hXq.out
                    cases hpq
                    refine q_do f rfl rfl rfl (y_index rfl rfl (by first | rfl | assumption) rfl (es rfl) (by omega)) ?_; clear f A; intro A f
                    refine q_do f rfl rfl rfl (y_loadN (vs := [_, _, _]) rfl rfl (ag rfl) rfl ⟨(by first | assumption | exact St.q c0a B0 | exact St.q c1a B0 | exact St.q c2a B0 | exact St.q c3a B0 | exact St.q c4a B0 | exact St.q c5a B0 | exact St.q c0b B0 | exact St.q c1b B0 | exact St.q c2b B0 | exact St.q c3b B0 | exact St.q c4b B0 | exact St.q c5b B0 | exact St.q c0p B0 | exact St.q c1p B0 | exact St.q c2p B0 | exact St.q c0q B0 | exact St.q c1q B0 | exact St.q c2q B0), (by first | assumption | exact St.q c0a B0 | exact St.q c1a B0 | exact St.q c2a B0 | exact St.q c3a B0 | exact St.q c4a B0 | exact St.q c5a B0 | exact St.q c0b B0 | exact St.q c1b B0 | exact St.q c2b B0 | exact St.q c3b B0 | exact St.q c4b B0 | exact St.q c5b B0 | exact St.q c0p B0 | exact St.q c1p B0 | exact St.q c2p B0 | exact St.q c0q B0 | exact St.q c1q B0 | exact St.q c2q B0), (by first | assumption | exact St.q c0a B0 | exact St.q c1a B0 | exact St.q c2a B0 | exact St.q c3a B0 | exact St.q c4a B0 | exact St.q c5a B0 | exact St.q c0b B0 | exact St.q c1b B0 | exact St.q c2b B0 | exact St.q c3b B0 | exact St.q c4b B0 | exact St.q c5b B0 | exact St.q c0p B0 | exact St.q c1p B0 | exact St.q c2p B0 | exact St.q c0q B0 | exact St.q c1q B0 | exact St.q c2q B0), trivial⟩) ?_; clear f A; intro A f
                    refine q_do f rfl rfl rfl (y_field rfl rfl (fo rfl)) ?_; clear f A; intro A f
                    refine q_do f rfl rfl rfl (y_load1 rfl rfl (ag rfl) (rowl (rowq rb17) rfl)) ?_; clear f A; intro A f
                    refine q_do f rfl rfl rfl (y_move rfl rfl) ?_; clear f A; intro A f
                    refine q_do f rfl rfl rfl (y_index rfl rfl (by first | rfl | assumption) rfl (es rfl) (by omega)) ?_; clear f A; intro A f
                    refine q_do f rfl rfl rfl (y_loadN (vs := [_, _, _]) rfl rfl (ag rfl) rfl ⟨(by first | assumption | exact St.q c0a B0 | exact St.q c1a B0 | exact St.q c2a B0 | exact St.q c3a B0 | exact St.q c4a B0 | exact St.q c5a B0 | exact St.q c0b B0 | exact St.q c1b B0 | exact St.q c2b B0 | exact St.q c3b B0 | exact St.q c4b B0 | exact St.q c5b B0 | exact St.q c0p B0 | exact St.q c1p B0 | exact St.q c2p B0 | exact St.q c0q B0 | exact St.q c1q B0 | exact St.q c2q B0), (by first | assumption | exact St.q c0a B0 | exact St.q c1a B0 | exact St.q c2a B0 | exact St.q c3a B0 | exact St.q c4a B0 | exact St.q c5a B0 | exact St.q c0b B0 | exact St.q c1b B0 | exact St.q c2b B0 | exact St.q c3b B0 | exact St.q c4b B0 | exact St.q c5b B0 | exact St.q c0p B0 | exact St.q c1p B0 | exact St.q c2p B0 | exact St.q c0q B0 | exact St.q c1q B0 | exact St.q c2q B0), (by first | assumption | exact St.q c0a B0 | exact St.q c1a B0 | exact St.q c2a B0 | exact St.q c3a B0 | exact St.q c4a B0 | exact St.q c5a B0 | exact St.q c0b B0 | exact St.q c1b B0 | exact St.q c2b B0 | exact St.q c3b B0 | exact St.q c4b B0 | exact St.q c5b B0 | exact St.q c0p B0 | exact St.q c1p B0 | exact St.q c2p B0 | exact St.q c0q B0 | exact St.q c1q B0 | exact St.q c2q B0), trivial⟩) ?_; clear f A; intro A f
                    refine q_do f rfl rfl rfl (y_neqBk rfl rfl rfl) ?_; clear f A; intro A f
                    refine wpQuiet_nil ?_; intro W34 hb33; replace B0 := Below.next B0 hb33; replace rb1 := row_next rb1 hb33; replace rb4 := row_next rb4 hb33; replace rb14 := row_next rb14 hb33; replace rb17 := row_next rb17 hb33
                    refine x_tn ?_
                    refine x_condF f rfl ?_
                    refine wp_skip ?_
                    refine x_bn ?_
                    refine x_tn ?_
                    refine sx_list ?_
                    refine l_do f rfl rfl rfl (y_move rfl rfl) ?_; clear f A; intro A f
                    refine l_do f rfl rfl rfl (y_add rfl rfl rfl rfl (by omega)) ?_; clear f A; intro A f
                    refine l_do f rfl rfl rfl (y_assign rfl rfl) ?_; clear f A; intro A f
                    refine wpList_nil ?_
                    refine x_tn ?_
                    exact ⟨sna - (j + 1), by omega, j + 1, rfl, by omega, f.sub ⟨rfl, rfl, rfl, rfl, rfl, rfl, trivial⟩, B0, rb1, rb4, rb14, rb17⟩
                  · clear f A; intro c32 A f
                    refine wpList_nil ?_
                    refine x_tn ?_
                    refine x_condF f rfl ?_
                    refine wp_exit ?_
                    refine x_te ?_
                    refine x_te ?_
                    refine x_bh ?_
                    refine x_bn ?_
                    refine x_tn ?_
                    refine sx_list ?_
                    refine l_do f rfl rfl rfl (y_move rfl rfl) ?_; clear f A; intro A f
                    refine l_do f rfl rfl rfl (y_add rfl rfl rfl rfl (by omega)) ?_; clear f A; intro A f
                    refine l_do f rfl rfl rfl (y_assign rfl rfl) ?_; clear f A; intro A f
                    refine wpList_nil ?_
                    refine x_tn ?_
                    exact ⟨x.cn - (k + 1), by omega, k + 1, rfl, by omega, f.sub ⟨rfl, rfl, rfl, trivial⟩, B0, rb1, rb4⟩
    · clear f A; intro c13 A f
      refine wpList_nil ?_
      refine x_tn ?_
      refine x_condF f rfl ?_
      refine wp_exit ?_
      refine x_te ?_
      refine x_te ?_
      refine x_bh ?_
      refine x_tn ?_
      refine wp_seq ?_
      refine sx_list ?_
      refine l_do f rfl rfl rfl (y_assign rfl rfl) ?_; clear f A; intro A f
      refine wpList_nil ?_
      refine x_tn ?_
      refine wp_ret ?_
      refine x_ret1 f rfl rfl ?_
      -- return 0: ¬c7@16 ¬c13@37
      exact ⟨rfl, B0⟩


end Go.Proofs.Ytnijjpakpphhhaa

/-
  OWN TEXT. The walk of the law SlabCopies (written by sxss.py).
-/
namespace Go.Proofs.Ytnijjpakpphhhaa
open Go Go.RowKit Go.Proofs.Ytnijjpakpphhhaa.Kit

set_option maxRecDepth 10000 in
set_option maxHeartbeats 4000000 in
theorem slabCopies_walk (x : Sy) (w : World) (h : IsSys w x) :
    Calls Try.prog 4 #[.agg #[.slice x.wo x.wn x.wc, .slice x.h.zo x.h.zn x.h.zc, .slice x.h.mo x.h.mn x.h.mc, .int .i64 x.h.cpus, .slice x.h.lo x.h.ln x.h.lc, .slice x.h.vo x.h.vn x.h.vc, .slice x.co x.cn x.cc]] w fun e w' => e = .returned (.bool true) ∧ Below w.heap.size w w' := by
  have hx := h.at_
  have B0 := Below.refl w.heap.size w
  refine sx_enter (args := [_]) 9 Try.func4 rfl rfl rfl ?_
  intro A f
  refine wp_seq ?_
  refine sx_list ?_
  refine l_box f rfl rfl rfl rfl rfl ?_; clear f A; intro b1 W2 eb1 hb3 rb1 A f; dsimp only [Value.cells] at rb1
  have z_B0_b1 := B0.size; rw [eb1] at z_B0_b1
  replace B0 := Below.next B0 hb3
  refine l_do f rfl rfl rfl (y_assign rfl rfl) ?_; clear f A; intro A f
  refine wpList_nil ?_
  refine x_tn ?_
  refine wp_seq ?_
  refine sx_list ?_
  refine l_do f rfl rfl rfl (y_loadN (vs := [_, _, _, _, _, _, _]) rfl rfl (ag rfl) rfl (rowls (rowq rb1) _ _ ⟨rfl, rfl, rfl, rfl, rfl, rfl, rfl, trivial⟩)) ?_; clear f A; intro A f
  refine l_call f rfl rfl rfl (IsCall.mk' (cap := []) rfl rfl rfl) (pl rfl) (slCopy_c _ x (hx.below B0)) ?_; clear f A; rintro _ W4 ⟨⟨y, rfl, hO, hsp, hwn, hcn⟩, hb5⟩; refine ⟨_, rfl, ?_⟩; intro A f; replace B0 := Below.next B0 hb5; replace rb1 := row_next rb1 hb5
  have hy := hO.at_
  refine l_as (z := .agg #[.slice none 0 0, .slice none 0 0, .slice none 0 0, .int .i64 0, .slice none 0 0, .slice none 0 0, .slice none 0 0]) f rfl rfl rfl rfl (by kernel_rfl) rfl rfl (fun _ => rfl) (fun _ => rfl) rfl (by intro u hu; simp [Value.cells] at hu; rcases hu with rfl | rfl | rfl | rfl | rfl | rfl | rfl <;> rfl) ?_; clear f A; intro b6 W7 eb6 hb8 rb6 A f
  dsimp only [Value.cells] at rb6
  have hpb6 := hb8
  have o_b1_b6 : b1 < b6 := by have := row_lt rb1; omega
  have z_B0_b6 := B0.size; rw [eb6] at z_B0_b6
  replace B0 := Below.next B0 hb8; replace hy := hy.below hb8; replace rb1 := row_next rb1 hb8
  refine wpList_nil ?_
  refine x_tn ?_
  refine wp_seq ?_
  refine sx_list ?_
  refine l_do f rfl rfl rfl (y_loadN (vs := [_, _, _, _, _, _, _]) rfl rfl (ag rfl) rfl (rowls (rowq rb6) _ _ ⟨rfl, rfl, rfl, rfl, rfl, rfl, rfl, trivial⟩)) ?_; clear f A; intro A f
  refine l_do f rfl rfl rfl (y_loadN (vs := [_, _, _, _, _, _, _]) rfl rfl (ag rfl) rfl (rowls (rowq rb1) _ _ ⟨rfl, rfl, rfl, rfl, rfl, rfl, rfl, trivial⟩)) ?_; clear f A; intro A f
  refine l_call f rfl rfl rfl (IsCall.mk' (cap := []) rfl rfl rfl) (pl rfl) (sameSystem_eq _ y x hy (hx.below B0) hsp) ?_; clear f A; rintro _ W9 ⟨rfl, hb10⟩; refine ⟨_, rfl, ?_⟩; intro A f; replace B0 := Below.next B0 hb10; replace hy := hy.below hb10; replace rb1 := row_next rb1 hb10; replace rb6 := row_next rb6 hb10
  refine l_do f rfl rfl rfl (y_assign rfl rfl) ?_; clear f A; intro A f
  refine wpList_nil ?_
  refine x_tn ?_
  refine wp_ret ?_
  refine x_ret1 f rfl rfl ?_
  -- return 0: 
  exact ⟨rfl, B0⟩


end Go.Proofs.Ytnijjpakpphhhaa
