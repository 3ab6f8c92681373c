/-
  OWN TEXTS.
-/
import Derived.Test.YtnijjpakpphhhaaPart11
set_option maxRecDepth 10000
set_option maxHeartbeats 4000000
namespace Go.Proofs.Ytnijjpakpphhhaa
open Go Go.RowKit Go.Proofs.Ytnijjpakpphhhaa.Kit
theorem slUnlike_any (w : World) (co : Option Addr) (cn cc : Nat) (l : List Cc) (h : Chs w co cn l) (few : cn ≤ 20) (hf : ∀ c ∈ l, c.Fits) :
    Calls Try.prog 15 #[.slice co cn cc] w fun e w' => RetB e (Unlike (l.map (·.c))) ∧ Below w.heap.size w w' := by
 have hcl := h.len
 have B0 := Below.refl w.heap.size w
 refine sx_enter (args := [_]) 55 Try.func15 rfl rfl rfl ?_
 intro A f
 refine wp_seq ?_
 refine sx_list ?_
 refine l_do f rfl rfl rfl (y_assign rfl rfl) ?_; clear f A; intro A f
 refine wpList_nil ?_
 refine x_tn ?_
 refine wp_seq ?_
 refine sx_list ?_
 refine l_mkMap f rfl rfl rfl rfl ?_; clear f A; intro b1 W2 eb1 hb3 ltb1 HM A f
 have z_B0_b1 := B0.size; rw [eb1] at z_B0_b1
 replace B0 := Below.next B0 hb3
 replace HM := HM 3 3
 refine l_mkMap f rfl rfl rfl rfl ?_; clear f A; intro b4 W5 eb4 hb6 ltb4 HP A f
 have z_B0_b4 := B0.size; rw [eb4] at z_B0_b4
 have o_b1_b4 : b1 < b4 := by have := HM.lt; omega
 replace B0 := Below.next B0 hb6; replace HM := HM.below hb6
 replace HP := HP 3 3
 refine l_do f rfl rfl rfl (y_assign rfl rfl) ?_; clear f A; intro A f
 refine l_do f rfl rfl rfl (y_assign rfl rfl) ?_; clear f A; intro A f
 refine wpList_nil ?_
 refine x_tn ?_
 refine wp_seq ?_
 refine wp_seq ?_
 refine sx_list ?_
 refine l_do f rfl rfl rfl (y_move rfl rfl) ?_; clear f A; intro A f
 refine l_do f rfl rfl rfl (y_len rfl rfl (sl rfl)) ?_; clear f A; intro A f
 refine l_do f rfl rfl rfl (y_move rfl rfl) ?_; clear f A; intro A f
 refine wpList_nil ?_
 refine x_tn ?_
 refine wp_block ?_
 replace HM : MapK Try.prog W5 3 3 b1 0 (keysI (upTo (fun c => [c.size]) l 0)) := HM.iff (fun kl => by rw [upTo_zero]; exact keysI_nil kl)
 replace HP : MapK Try.prog W5 3 3 b4 0 (keysI (upTo (fun c => c.slabs.map (·.a)) l 0)) := HP.iff (fun kl => by rw [upTo_zero]; exact keysI_nil kl)
 refine x_loop (fun n A W => ∃ k m p : Nat, n = cn - k ∧ k ≤ cn ∧ m ≤ k ∧ p ≤ k * 8796093022208 ∧ Fr A 55 [(3, .map (some b1)), (4, .map (some b4)), (15, .slice co cn cc), (16, .int .i64 (cn : Nat)), (17, .int .i64 (k : Nat))] ∧ Below w.heap.size w W ∧ MapK Try.prog W 3 3 b1 m (keysI (upTo (fun c => [c.size]) l k)) ∧ MapK Try.prog W 3 3 b4 p (keysI (upTo (fun c => c.slabs.map (·.a)) l k)) ∧ (upTo (fun c => [c.size]) l k).Nodup ∧ (upTo (fun c => c.slabs.map (·.a)) l k).Nodup) (n0 := cn) (⟨0, 0, 0, rfl, Nat.zero_le _, Nat.zero_le _, Nat.zero_le _, f.sub ⟨rfl, rfl, rfl, rfl, rfl, trivial⟩, B0, HM, HP, by rw [upTo_zero]; exact List.nodup_nil, by rw [upTo_zero]; exact List.nodup_nil⟩) ?_
 clear f A
 clear B0 HM HP
 rintro n A W7 ⟨k, m, p, hn, hk, hm, hp, f, B0, HM, HP, hns, hnp⟩
 have oHM := HM.lt
 have oHP := HP.lt
 refine wp_seq ?_
 refine sx_list ?_
 refine l_if _ f rfl rfl rfl (y_lss rfl rfl rfl) ?_ ?_
 ·clear f A; intro c8 A f
  refine wpList_nil ?_
  refine x_tn ?_
  refine wp_seq ?_
  refine x_condT f rfl ?_
  refine wp_skip ?_
  refine x_tn ?_
  refine wp_seq ?_
  refine wp_block ?_
  refine wp_seq ?_
  refine sx_list ?_
  refine l_do f rfl rfl rfl (y_move rfl rfl) ?_; clear f A; intro A f
  obtain ⟨ga, oa, nma, sza, pra, ora, sla, aca, noa, nna, nca, soa, sna, sca, aoa, ana, aka, haa, c0a, c1a, c2a, c3a, c4a, c5a, hNa, hBa, hAa, hXa⟩ := (h).at (k) (by omega)
  replace c0a := St.of c0a; replace c1a := St.of c1a; replace c2a := St.of c2a; replace c3a := St.of c3a; replace c4a := St.of c4a; replace c5a := St.of c5a
  have l1 := hBa.len
  have rB := hBa.reach
  have hws : (Lit.int .i64 sza).wf = true := by have := (hf _ (getD_mem (d := Cc.zero) (show k < l.length by omega))).s; rwa [hXa.out] at this
  have hus : upTo (fun c => [c.size]) l (k + 1) = upTo (fun c => [c.size]) l k ++ [sza] := by rw [upTo_succ (fun c => [c.size]) l (by omega), hXa.out]
  refine l_do f rfl rfl rfl (y_index rfl rfl (by first | rfl | assumption) rfl (es rfl) (by omega)) ?_; clear f A; intro A f
  refine l_do f rfl rfl rfl (y_loadN (vs := [_, _, _, _, _, _]) rfl rfl (ag rfl) rfl ⟨(by first | assumption | exact St.q c0a B0 | exact St.q c1a B0 | exact St.q c2a B0 | exact St.q c3a B0 | exact St.q c4a B0 | exact St.q c5a B0), (by first | assumption | exact St.q c0a B0 | exact St.q c1a B0 | exact St.q c2a B0 | exact St.q c3a B0 | exact St.q c4a B0 | exact St.q c5a B0), (by first | assumption | exact St.q c0a B0 | exact St.q c1a B0 | exact St.q c2a B0 | exact St.q c3a B0 | exact St.q c4a B0 | exact St.q c5a B0), (by first | assumption | exact St.q c0a B0 | exact St.q c1a B0 | exact St.q c2a B0 | exact St.q c3a B0 | exact St.q c4a B0 | exact St.q c5a B0), (by first | assumption | exact St.q c0a B0 | exact St.q c1a B0 | exact St.q c2a B0 | exact St.q c3a B0 | exact St.q c4a B0 | exact St.q c5a B0), (by first | assumption | exact St.q c0a B0 | exact St.q c1a B0 | exact St.q c2a B0 | exact St.q c3a B0 | exact St.q c4a B0 | exact St.q c5a B0), trivial⟩) ?_; clear f A; intro A f
  refine l_alloc (z := .agg #[.slice none 0 0, .int .i64 0, .int .i64 0, .int .i64 0, .slice none 0 0, .slice none 0 0]) f rfl rfl rfl rfl (by kernel_rfl) ?_; clear f A; intro b9 W10 eb9 hb11 rb9 A f; dsimp only [Value.cells] at rb9
  have z_B0_b9 := B0.size; rw [eb9] at z_B0_b9
  replace B0 := Below.next B0 hb11; replace HM := HM.below hb11; replace HP := HP.below hb11
  refine l_do f rfl rfl rfl (y_assign rfl rfl) ?_; clear f A; intro A f
  refine l_store f rfl rfl rfl rfl rfl rb9 (sz rfl) rfl (Nat.le_of_ble_eq_true rfl) rfl ?_
  clear rb9; intro W12 hb13 rb9; dsimp only [setL, over, Value.cells] at rb9; replace B0 := Below.thenBut B0 hb13 (by omega); replace HM := MapK.but HM hb13 (by omega); replace HP := MapK.but HP hb13 (by omega)
  refine wpList_nil ?_
  refine x_tn ?_
  refine wp_seq ?_
  refine wp_seq ?_
  refine sx_list ?_
  refine l_do f rfl rfl rfl (y_move rfl rfl) ?_; clear f A; intro A f
  refine l_do f rfl rfl rfl (y_field rfl rfl (fo rfl)) ?_; clear f A; intro A f
  refine l_do f rfl rfl rfl (y_load1 rfl rfl (ag rfl) (rowl (rowq rb9) rfl)) ?_; clear f A; intro A f
  refine l_lookB (kl := .int .i64 sza) f rfl rfl rfl rfl rfl rfl mapT_II (Maps.keyOf_int_mk Try.underlying3 hws) HM ?_ ?_
  ·clear f A; intro c14 lv A f
   refine l_do f rfl rfl rfl (y_move rfl rfl) ?_; clear f A; intro A f
   refine l_do f rfl rfl rfl (y_ext rfl rfl rfl) ?_; clear f A; intro A f
   refine l_do f rfl rfl rfl (y_ext rfl rfl rfl) ?_; clear f A; intro A f
   refine l_do f rfl rfl rfl (y_assign rfl rfl) ?_; clear f A; intro A f
   refine l_do f rfl rfl rfl (y_assign rfl rfl) ?_; clear f A; intro A f
   refine wpList_nil ?_
   refine x_tn ?_
   refine wp_seq ?_
   refine sx_list ?_
   refine l_do f rfl rfl rfl (y_move rfl rfl) ?_; clear f A; intro A f
   refine wpList_nil ?_
   refine x_tn ?_
   refine x_condT f rfl ?_
   refine wp_seq ?_
   refine sx_list ?_
   refine l_do f rfl rfl rfl (y_assign rfl rfl) ?_; clear f A; intro A f
   refine wpList_nil ?_
   refine x_tn ?_
   refine wp_ret ?_
   refine x_tr ?_
   refine x_br ?_
   refine x_tr ?_
   refine x_tr ?_
   refine x_br ?_
   refine x_tr ?_
   refine x_ret1 f rfl rfl ?_
   exact ⟨retB_false (fun hh => upTo_twice (fun c => [c.size]) l 0 (j := 0) (show k < l.length by omega) (by rw [hXa.out]) rfl (by simp) (unlike_size hh) (by rw [List.take_zero, List.append_nil]; exact keysI_at.1 c14)), B0⟩
  ·clear f A; intro c14 lv A f
   refine l_do f rfl rfl rfl (y_move rfl rfl) ?_; clear f A; intro A f
   refine l_do f rfl rfl rfl (y_ext rfl rfl rfl) ?_; clear f A; intro A f
   refine l_do f rfl rfl rfl (y_ext rfl rfl rfl) ?_; clear f A; intro A f
   refine l_do f rfl rfl rfl (y_assign rfl rfl) ?_; clear f A; intro A f
   refine l_do f rfl rfl rfl (y_assign rfl rfl) ?_; clear f A; intro A f
   refine wpList_nil ?_
   refine x_tn ?_
   refine wp_seq ?_
   refine sx_list ?_
   refine l_do f rfl rfl rfl (y_move rfl rfl) ?_; clear f A; intro A f
   refine wpList_nil ?_
   refine x_tn ?_
   refine x_condF f rfl ?_
   refine wp_skip ?_
   refine x_tn ?_
   refine wp_seq ?_
   refine sx_list ?_
   refine l_do f rfl rfl rfl (y_move rfl rfl) ?_; clear f A; intro A f
   refine l_do f rfl rfl rfl (y_field rfl rfl (fo rfl)) ?_; clear f A; intro A f
   refine l_do f rfl rfl rfl (y_load1 rfl rfl (ag rfl) (rowl (rowq rb9) rfl)) ?_; clear f A; intro A f
   refine l_do f rfl rfl rfl (y_move rfl rfl) ?_; clear f A; intro A f
   refine l_put (kl := .int .i64 sza) f rfl rfl rfl rfl rfl rfl mapT_II (Maps.keyOf_int_mk Try.underlying3 hws) trivial (WalkArith.wf_i64 (by omega)) (by have : (1000000000000000 : Nat) < maxLen := (by decide); omega) HM ?_; intro W15 hb16 HM
   replace B0 := Below.thenBut B0 hb16 (by omega); replace rb9 := But.row hb16 rb9 (by omega); replace HP := MapK.but HP hb16 (by omega)
   refine wpList_nil ?_
   refine x_tn ?_
   refine wp_seq ?_
   refine sx_list ?_
   refine l_do f rfl rfl rfl (y_field rfl rfl (fo rfl)) ?_; clear f A; intro A f
   refine l_do f rfl rfl rfl (y_load1 rfl rfl (ag rfl) (rowl (rowq rb9) rfl)) ?_; clear f A; intro A f
   refine l_do f rfl rfl rfl (y_len rfl rfl (sl rfl)) ?_; clear f A; intro A f
   refine l_do f rfl rfl rfl (y_move rfl rfl) ?_; clear f A; intro A f
   refine wpList_nil ?_
   refine x_tn ?_
   refine wp_block ?_
   replace HM := HM.iff (fun kl => keysI_put kl)
   have hns2 := nodup_snoc hns (fun h => c14 (keysI_at.2 h))
   refine x_loop (fun n A W => ∃ (j p2 : Nat), n = sna - j ∧ j ≤ sna ∧ p2 ≤ p + j ∧ Fr A 55 [(3, .map (some b1)), (4, .map (some b4)), (15, .slice co cn cc), (16, .int .i64 (cn : Nat)), (17, .int .i64 (k : Nat)), (6, .pointer (some ⟨b9, 0, none⟩)), (35, .slice soa sna sca), (36, .int .i64 (sna : Nat)), (37, .int .i64 (j : Nat)), (5, .int .i64 (k : Nat))] ∧ Below w.heap.size w W ∧ W.heap[b9]? = some (.cells #[.slice noa nna nca, .int .i64 sza, .int .i64 pra, .int .i64 ora, .slice soa sna sca, .slice aoa ana aka] 45 (0, 0)) ∧ MapK Try.prog W 3 3 b1 (m + 1) (keysI (upTo (fun c => [c.size]) l k ++ [sza])) ∧ MapK Try.prog W 3 3 b4 p2 (keysI (upTo (fun c => c.slabs.map (·.a)) l k ++ (sla.map (·.a)).take j)) ∧ (upTo (fun c => c.slabs.map (·.a)) l k ++ (sla.map (·.a)).take j).Nodup) (n0 := sna) (⟨0, p, rfl, Nat.zero_le _, Nat.le_refl _, f.sub ⟨rfl, rfl, rfl, rfl, rfl, rfl, rfl, rfl, rfl, rfl, trivial⟩, B0, rb9, HM, by rw [List.take_zero, List.append_nil]; exact HP, by rw [List.take_zero, List.append_nil]; exact hnp⟩) ?_
   clear f A
   clear B0 HM HP rb9
   rintro n2 A W17 ⟨j, p2, hn2, hj, hp2, f, B0, rb9, HM, HP, hnp2⟩
   have oHM2 := HM.lt
   have oHP2 := HP.lt
   have o6 := row_lt rb9
   refine wp_seq ?_
   refine sx_list ?_
   refine l_if _ f rfl rfl rfl (y_lss rfl rfl rfl) ?_ ?_
   ·clear f A; intro c18 A f
    refine wpList_nil ?_
    refine x_tn ?_
    refine wp_seq ?_
    refine x_condT f rfl ?_
    refine wp_skip ?_
    refine x_tn ?_
    refine wp_seq ?_
    refine wp_block ?_
    refine wp_seq ?_
    refine sx_list ?_
    obtain ⟨ge, oe, bae, boe, bte, hae, c0e, c1e, c2e, hXe⟩ := hBa.at_.at (j) (by have := hBa.len; omega)
    replace c0e := St.of c0e; replace c1e := St.of c1e; replace c2e := St.of c2e
    have hpj := pages_at (show j < sla.length by omega) hXe.out
    have hwe : (Lit.int .i64 bae).wf = true := by
     have := ((hf _ (getD_mem (d := Cc.zero) (show k < l.length by omega))).b j (by rw [hXa.out]; exact show j < sna by omega)).a
     rw [hXa.out] at this
     have h3 := congrArg Bk.a hXe.out
     dsimp only at this h3
     rwa [h3] at this
    refine l_do f rfl rfl rfl (y_index rfl rfl (by first | rfl | assumption) rfl (es rfl) (by omega)) ?_; clear f A; intro A f
    refine l_do f rfl rfl rfl (y_loadN (vs := [_, _, _]) rfl rfl (ag rfl) rfl ⟨(by first | assumption | exact St.q c0a B0 | exact St.q c1a B0 | exact St.q c2a B0 | exact St.q c3a B0 | exact St.q c4a B0 | exact St.q c5a B0 | exact St.q c0e B0 | exact St.q c1e B0 | exact St.q c2e B0), (by first | assumption | exact St.q c0a B0 | exact St.q c1a B0 | exact St.q c2a B0 | exact St.q c3a B0 | exact St.q c4a B0 | exact St.q c5a B0 | exact St.q c0e B0 | exact St.q c1e B0 | exact St.q c2e B0), (by first | assumption | exact St.q c0a B0 | exact St.q c1a B0 | exact St.q c2a B0 | exact St.q c3a B0 | exact St.q c4a B0 | exact St.q c5a B0 | exact St.q c0e B0 | exact St.q c1e B0 | exact St.q c2e B0), trivial⟩) ?_; clear f A; intro A f
    refine l_as (z := .agg #[.int .i64 0, .int .i64 0, .int .i64 0]) f rfl rfl rfl rfl (by kernel_rfl) rfl rfl (fun _ => rfl) (fun _ => rfl) rfl (by intro u hu; simp [Value.cells] at hu; rcases hu with rfl | rfl | rfl <;> rfl) ?_; clear f A; intro b19 W20 eb19 hb21 rb19 A f
    dsimp only [Value.cells] at rb19
    have hpb19 := hb21
    have o_b9_b19 : b9 < b19 := by have := row_lt rb9; omega
    have z_B0_b19 := B0.size; rw [eb19] at z_B0_b19
    replace B0 := Below.next B0 hb21; replace rb9 := row_next rb9 hb21; replace HM := HM.below hb21; replace HP := HP.below hb21
    refine wpList_nil ?_
    refine x_tn ?_
    refine wp_seq ?_
    refine wp_seq ?_
    refine sx_list ?_
    refine l_do f rfl rfl rfl (y_move rfl rfl) ?_; clear f A; intro A f
    refine l_do f rfl rfl rfl (y_field rfl rfl (fo rfl)) ?_; clear f A; intro A f
    refine l_do f rfl rfl rfl (y_load1 rfl rfl (ag rfl) (rowl (rowq rb19) rfl)) ?_; clear f A; intro A f
    refine l_lookB (kl := .int .i64 bae) f rfl rfl rfl rfl rfl rfl mapT_II (Maps.keyOf_int_mk Try.underlying3 hwe) HP ?_ ?_
    ·clear f A; intro c22 lv A f
     refine l_do f rfl rfl rfl (y_move rfl rfl) ?_; clear f A; intro A f
     refine l_do f rfl rfl rfl (y_ext rfl rfl rfl) ?_; clear f A; intro A f
     refine l_do f rfl rfl rfl (y_ext rfl rfl rfl) ?_; clear f A; intro A f
     refine l_do f rfl rfl rfl (y_assign rfl rfl) ?_; clear f A; intro A f
     refine l_do f rfl rfl rfl (y_assign rfl rfl) ?_; clear f A; intro A f
     refine wpList_nil ?_
     refine x_tn ?_
     refine wp_seq ?_
     refine sx_list ?_
     refine l_do f rfl rfl rfl (y_move rfl rfl) ?_; clear f A; intro A f
     refine wpList_nil ?_
     refine x_tn ?_
     refine x_condT f rfl ?_
     refine wp_seq ?_
     refine sx_list ?_
     refine l_do f rfl rfl rfl (y_assign rfl rfl) ?_; clear f A; intro A f
     refine wpList_nil ?_
     refine x_tn ?_
     refine wp_ret ?_
     refine x_tr ?_
     refine x_br ?_
     refine x_tr ?_
     refine x_tr ?_
     refine x_br ?_
     refine x_br ?_
     refine x_tr ?_
     refine x_tr ?_
     refine x_br ?_
     refine x_tr ?_
     refine x_ret1 f rfl rfl ?_
     exact ⟨retB_false (fun hh => upTo_twice (fun c => c.slabs.map (·.a)) l 0 (show k < l.length by omega) (by rw [hXa.out]) hpj (by rw [List.length_map]; omega) hh.at_ (keysI_at.1 c22)), B0⟩
    ·clear f A; intro c22 lv A f
     refine l_do f rfl rfl rfl (y_move rfl rfl) ?_; clear f A; intro A f
     refine l_do f rfl rfl rfl (y_ext rfl rfl rfl) ?_; clear f A; intro A f
     refine l_do f rfl rfl rfl (y_ext rfl rfl rfl) ?_; clear f A; intro A f
     refine l_do f rfl rfl rfl (y_assign rfl rfl) ?_; clear f A; intro A f
     refine l_do f rfl rfl rfl (y_assign rfl rfl) ?_; clear f A; intro A f
     refine wpList_nil ?_
     refine x_tn ?_
     refine wp_seq ?_
     refine sx_list ?_
     refine l_do f rfl rfl rfl (y_move rfl rfl) ?_; clear f A; intro A f
     refine wpList_nil ?_
     refine x_tn ?_
     refine x_condF f rfl ?_
     refine wp_skip ?_
     refine x_tn ?_
     refine sx_list ?_
     refine l_do f rfl rfl rfl (y_move rfl rfl) ?_; clear f A; intro A f
     refine l_do f rfl rfl rfl (y_field rfl rfl (fo rfl)) ?_; clear f A; intro A f
     refine l_do f rfl rfl rfl (y_load1 rfl rfl (ag rfl) (rowl (rowq rb19) rfl)) ?_; clear f A; intro A f
     refine l_do f rfl rfl rfl (y_move rfl rfl) ?_; clear f A; intro A f
     refine l_put (kl := .int .i64 bae) f rfl rfl rfl rfl rfl rfl mapT_II (Maps.keyOf_int_mk Try.underlying3 hwe) trivial (WalkArith.wf_i64 (by omega)) (by have : (1000000000000000 : Nat) < maxLen := (by decide); omega) HP ?_; intro W23 hb24 HP
     replace B0 := Below.thenBut B0 hb24 (by omega); replace rb9 := But.row hb24 rb9 (by omega); replace rb19 := But.row hb24 rb19 (by omega); replace HM := MapK.but HM hb24 (by omega)
     refine wpList_nil ?_
     refine x_bn ?_
     refine x_tn ?_
     refine sx_list ?_
     refine l_do f rfl rfl rfl (y_add rfl rfl rfl rfl (by omega)) ?_; clear f A; intro A f
     refine l_do f rfl rfl rfl (y_move rfl rfl) ?_; clear f A; intro A f
     refine wpList_nil ?_
     refine x_tn ?_
     exact ⟨sna - (j + 1), by omega, j + 1, p2 + 1, rfl, by omega, by omega, f.sub ⟨rfl, rfl, rfl, rfl, rfl, rfl, rfl, rfl, rfl, rfl, trivial⟩, B0, rb9, HM, HP.iff (fun kl => by rw [upTo_step (fun c => c.slabs.map (·.a)) l 0 hpj (show j < (sla.map (·.a)).length by rw [List.length_map]; omega)]; exact keysI_put kl), upTo_more (fun c => c.slabs.map (·.a)) l 0 hpj (by rw [List.length_map]; omega) hnp2 (fun h => c22 (keysI_at.2 h))⟩
   ·clear f A; intro c18 A f
    refine wpList_nil ?_
    refine x_tn ?_
    refine wp_seq ?_
    refine x_condF f rfl ?_
    refine wp_exit ?_
    refine x_te ?_
    refine x_te ?_
    refine x_bh ?_
    refine x_bn ?_
    refine x_tn ?_
    refine sx_list ?_
    refine l_do f rfl rfl rfl (y_add rfl rfl rfl rfl (by omega)) ?_; clear f A; intro A f
    refine l_do f rfl rfl rfl (y_move rfl rfl) ?_; clear f A; intro A f
    refine wpList_nil ?_
    refine x_tn ?_
    have hje : j = sna := by omega
    have hte : (sla.map (·.a)).take j = sla.map (·.a) := List.take_of_length_le (by rw [List.length_map]; omega)
    have hue : upTo (fun c => c.slabs.map (·.a)) l (k + 1) = upTo (fun c => c.slabs.map (·.a)) l k ++ sla.map (·.a) := by rw [upTo_succ (fun c => c.slabs.map (·.a)) l (by omega), hXa.out]
    exact ⟨cn - (k + 1), by omega, k + 1, m + 1, p2, rfl, by omega, by omega, by omega, f.sub ⟨rfl, rfl, rfl, rfl, rfl, trivial⟩, B0, by rw [hus]; exact HM, by rw [hue, ← hte]; exact HP, by rw [hus]; exact hns2, by rw [hue, ← hte]; exact hnp2⟩
 ·clear f A; intro c8 A f
  refine wpList_nil ?_
  refine x_tn ?_
  refine wp_seq ?_
  refine x_condF f rfl ?_
  refine wp_exit ?_
  refine x_te ?_
  refine x_te ?_
  refine x_bh ?_
  refine x_tn ?_
  refine wp_seq ?_
  refine sx_list ?_
  refine l_do f rfl rfl rfl (y_assign rfl rfl) ?_; clear f A; intro A f
  refine wpList_nil ?_
  refine x_tn ?_
  refine wp_ret ?_
  refine x_ret1 f rfl rfl ?_
  have hke : k = cn := by omega
  subst hke
  exact ⟨retB_true (unlike_of h.len hns hnp), B0⟩
theorem slCheck_any (w : World) (x : Sy) (hx : x.At w) (hf : ∀ c ∈ x.cs, c.Fits) :
    Calls Try.prog 6 #[.agg #[.slice x.wo x.wn x.wc, .slice x.h.zo x.h.zn x.h.zc, .slice x.h.mo x.h.mn x.h.mc, .int .i64 x.h.cpus, .slice x.h.lo x.h.ln x.h.lc, .slice x.h.vo x.h.vn x.h.vc, .slice x.co x.cn x.cc]] w fun e w' => (∃ q, e = .returned (.int .i64 q) ∧ (q = 0 ∧ SMay x.sp ∨ q = 8 ∧ ¬ SMay x.sp)) ∧ Below w.heap.size w w' := by
 have hcl := hx.caches.len
 have B0 := Below.refl w.heap.size w
 refine sx_enter (args := [_]) 34 Try.func6 rfl rfl rfl ?_
 intro A f
 refine wp_seq ?_
 refine sx_list ?_
 refine l_box f rfl rfl rfl rfl rfl ?_; clear f A; intro b1 W2 eb1 hb3 rb1 A f; dsimp only [Value.cells] at rb1
 have z_B0_b1 := B0.size; rw [eb1] at z_B0_b1
 replace B0 := Below.next B0 hb3
 refine l_do f rfl rfl rfl (y_assign rfl rfl) ?_; clear f A; intro A f
 refine wpList_nil ?_
 refine x_tn ?_
 refine wp_seq ?_
 refine wp_seq ?_
 refine sx_list ?_
 refine l_do f rfl rfl rfl (y_field rfl rfl (fo rfl)) ?_; clear f A; intro A f
 refine l_do f rfl rfl rfl (y_load1 rfl rfl (ag rfl) (rowl (rowq rb1) rfl)) ?_; clear f A; intro A f
 refine l_do f rfl rfl rfl (y_len rfl rfl (sl rfl)) ?_; clear f A; intro A f
 refine l_if _ f rfl rfl rfl (y_neq rfl rfl rfl) ?_ ?_
 ·clear f A; intro c4 A f
  refine l_do f rfl rfl rfl (y_move rfl rfl) ?_; clear f A; intro A f
  refine l_no f rfl rfl rfl ?_; clear f A; intro A f
  refine l_no f rfl rfl rfl ?_; clear f A; intro A f
  refine l_no f rfl rfl rfl ?_; clear f A; intro A f
  refine l_no f rfl rfl rfl ?_; clear f A; intro A f
  refine l_do f rfl rfl rfl (y_pick rfl rfl rfl) ?_; clear f A; intro A f
  refine wpList_nil ?_
  refine x_tn ?_
  refine x_condT f rfl ?_
  refine wp_seq ?_
  refine sx_list ?_
  refine l_do f rfl rfl rfl (y_assign rfl rfl) ?_; clear f A; intro A f
  refine wpList_nil ?_
  refine x_tn ?_
  refine wp_ret ?_
  refine x_tr ?_
  refine x_ret1 f rfl rfl ?_
  exact ⟨⟨_, rfl, .inr ⟨rfl, fun h => by have h1 := h.words; have h2 : x.words.length = x.wn := hx.words.len; have h3 : x.sp.words.length = x.words.length := rfl; omega⟩⟩, B0⟩
 ·clear f A; intro c4 A f
  refine l_do f rfl rfl rfl (y_move rfl rfl) ?_; clear f A; intro A f
  refine l_do f rfl rfl rfl (y_field rfl rfl (fo rfl)) ?_; clear f A; intro A f
  refine l_do f rfl rfl rfl (y_loadN (vs := [_, _, _, _, _]) rfl rfl (ag rfl) rfl (rowls (rowq rb1) _ _ ⟨rfl, rfl, rfl, rfl, rfl, trivial⟩)) ?_; clear f A; intro A f
  refine l_call f rfl rfl rfl (IsCall.mk' (cap := []) rfl rfl rfl) (pl rfl) (pCheck_any _ x.h (hx.heap.below B0)) ?_; clear f A; rintro _ W5 ⟨⟨q, rfl, hq⟩, hb6⟩
  rcases hq with ⟨rfl, hm⟩ | ⟨rfl, hm⟩
  ·refine ⟨_, rfl, ?_⟩
   intro A f
   replace B0 := Below.next B0 hb6; replace rb1 := row_next rb1 hb6
   refine l_if _ f rfl rfl rfl (y_neq rfl rfl rfl) ?_ ?_
   ·intro c7; exfalso; omega
   ·clear f A; intro c7 A f
    refine l_do f rfl rfl rfl (y_pick rfl rfl rfl) ?_; clear f A; intro A f
    refine wpList_nil ?_
    refine x_tn ?_
    refine x_condF f rfl ?_
    refine wp_skip ?_
    refine x_tn ?_
    refine wp_seq ?_
    refine wp_seq ?_
    refine sx_list ?_
    refine l_do f rfl rfl rfl (y_field rfl rfl (fo rfl)) ?_; clear f A; intro A f
    refine l_do f rfl rfl rfl (y_load1 rfl rfl (ag rfl) (rowl (rowq rb1) rfl)) ?_; clear f A; intro A f
    refine l_do f rfl rfl rfl (y_len rfl rfl (sl rfl)) ?_; clear f A; intro A f
    refine l_if _ f rfl rfl rfl (y_gtr rfl rfl rfl) ?_ ?_
    ·clear f A; intro c8 A f
     refine l_do f rfl rfl rfl (y_move rfl rfl) ?_; clear f A; intro A f
     refine l_no f rfl rfl rfl ?_; clear f A; intro A f
     refine l_no f rfl rfl rfl ?_; clear f A; intro A f
     refine l_no f rfl rfl rfl ?_; clear f A; intro A f
     refine l_do f rfl rfl rfl (y_pick rfl rfl rfl) ?_; clear f A; intro A f
     refine l_do f rfl rfl rfl (y_move rfl rfl) ?_; clear f A; intro A f
     refine l_no f rfl rfl rfl ?_; clear f A; intro A f
     refine l_no f rfl rfl rfl ?_; clear f A; intro A f
     refine l_no f rfl rfl rfl ?_; clear f A; intro A f
     refine l_no f rfl rfl rfl ?_; clear f A; intro A f
     refine l_do f rfl rfl rfl (y_pick rfl rfl rfl) ?_; clear f A; intro A f
     refine l_do f rfl rfl rfl (y_move rfl rfl) ?_; clear f A; intro A f
     refine l_no f rfl rfl rfl ?_; clear f A; intro A f
     refine l_no f rfl rfl rfl ?_; clear f A; intro A f
     refine l_no f rfl rfl rfl ?_; clear f A; intro A f
     refine l_no f rfl rfl rfl ?_; clear f A; intro A f
     refine l_do f rfl rfl rfl (y_pick rfl rfl rfl) ?_; clear f A; intro A f
     refine wpList_nil ?_
     refine x_tn ?_
     refine x_condT f rfl ?_
     refine wp_seq ?_
     refine sx_list ?_
     refine l_do f rfl rfl rfl (y_assign rfl rfl) ?_; clear f A; intro A f
     refine wpList_nil ?_
     refine x_tn ?_
     refine wp_ret ?_
     refine x_tr ?_
     refine x_ret1 f rfl rfl ?_
     exact ⟨⟨_, rfl, .inr ⟨rfl, fun h => by have h1 := h.few; have h3 : x.sp.caches.length = x.cs.length := List.length_map _; omega⟩⟩, B0⟩
    ·clear f A; intro c8 A f
     refine l_do f rfl rfl rfl (y_move rfl rfl) ?_; clear f A; intro A f
     refine l_do f rfl rfl rfl (y_loadN (vs := [_, _, _, _, _, _, _]) rfl rfl (ag rfl) rfl (rowls (rowq rb1) _ _ ⟨rfl, rfl, rfl, rfl, rfl, rfl, rfl, trivial⟩)) ?_; clear f A; intro A f
     refine l_callB _ f rfl rfl rfl (IsCall.mk' (cap := []) rfl rfl rfl) (pl rfl) (slCachesMay_any _ x (hx.below B0) hm (fun c hc => (hf c hc).a)) ?_ ?_
     ·clear f A; intro c9 W11 hb10 A f
      replace B0 := Below.next B0 hb10; replace rb1 := row_next rb1 hb10
      refine l_do f rfl rfl rfl (y_not rfl rfl) ?_; clear f A; intro A f
      refine l_do f rfl rfl rfl (y_pick rfl rfl rfl) ?_; clear f A; intro A f
      refine l_do f rfl rfl rfl (y_move rfl rfl) ?_; clear f A; intro A f
      refine l_do f rfl rfl rfl (y_field rfl rfl (fo rfl)) ?_; clear f A; intro A f
      refine l_do f rfl rfl rfl (y_load1 rfl rfl (ag rfl) (rowl (rowq rb1) rfl)) ?_; clear f A; intro A f
      refine l_callB _ f rfl rfl rfl (IsCall.mk' (cap := []) rfl rfl rfl) (pl rfl) (slNamesMay_any _ x.co x.cn x.cc x.cs (hx.caches.below B0) (by omega)) ?_ ?_
      ·clear f A; intro c12 W14 hb13 A f
       replace B0 := Below.next B0 hb13; replace rb1 := row_next rb1 hb13
       refine l_do f rfl rfl rfl (y_not rfl rfl) ?_; clear f A; intro A f
       refine l_do f rfl rfl rfl (y_pick rfl rfl rfl) ?_; clear f A; intro A f
       refine l_do f rfl rfl rfl (y_move rfl rfl) ?_; clear f A; intro A f
       refine l_do f rfl rfl rfl (y_field rfl rfl (fo rfl)) ?_; clear f A; intro A f
       refine l_do f rfl rfl rfl (y_load1 rfl rfl (ag rfl) (rowl (rowq rb1) rfl)) ?_; clear f A; intro A f
       refine l_callB _ f rfl rfl rfl (IsCall.mk' (cap := []) rfl rfl rfl) (pl rfl) (slUnlike_any _ x.co x.cn x.cc x.cs (hx.caches.below B0) (by omega) hf) ?_ ?_
       ·clear f A; intro c15 W17 hb16 A f
        replace B0 := Below.next B0 hb16; replace rb1 := row_next rb1 hb16
        refine l_do f rfl rfl rfl (y_not rfl rfl) ?_; clear f A; intro A f
        refine l_do f rfl rfl rfl (y_pick rfl rfl rfl) ?_; clear f A; intro A f
        refine wpList_nil ?_
        refine x_tn ?_
        refine x_condF f rfl ?_
        refine wp_skip ?_
        refine x_tn ?_
        refine wp_seq ?_
        refine sx_list ?_
        refine l_do f rfl rfl rfl (y_assign rfl rfl) ?_; clear f A; intro A f
        refine wpList_nil ?_
        refine x_tn ?_
        refine wp_ret ?_
        refine x_ret1 f rfl rfl ?_
        exact ⟨⟨_, rfl, .inl ⟨rfl, ⟨show x.words.length = 4096 by have h2 := hx.words.len; omega, hm, show (x.cs.map (·.c)).length ≤ 20 by rw [List.length_map]; omega, fun c hc => by obtain ⟨y, hy, rfl⟩ := List.mem_map.1 hc; exact c9 y hy, c12, c15⟩⟩⟩, B0⟩
       ·clear f A; intro c15 W17 hb16 A f
        replace B0 := Below.next B0 hb16; replace rb1 := row_next rb1 hb16
        refine l_do f rfl rfl rfl (y_not rfl rfl) ?_; clear f A; intro A f
        refine l_do f rfl rfl rfl (y_pick rfl rfl rfl) ?_; clear f A; intro A f
        refine wpList_nil ?_
        refine x_tn ?_
        refine x_condT f rfl ?_
        refine wp_seq ?_
        refine sx_list ?_
        refine l_do f rfl rfl rfl (y_assign rfl rfl) ?_; clear f A; intro A f
        refine wpList_nil ?_
        refine x_tn ?_
        refine wp_ret ?_
        refine x_tr ?_
        refine x_ret1 f rfl rfl ?_
        exact ⟨⟨_, rfl, .inr ⟨rfl, fun h => c15 h.unlike⟩⟩, B0⟩
      ·clear f A; intro c12 W14 hb13 A f
       replace B0 := Below.next B0 hb13; replace rb1 := row_next rb1 hb13
       refine l_do f rfl rfl rfl (y_not rfl rfl) ?_; clear f A; intro A f
       refine l_do f rfl rfl rfl (y_pick rfl rfl rfl) ?_; clear f A; intro A f
       refine l_do f rfl rfl rfl (y_move rfl rfl) ?_; clear f A; intro A f
       refine l_no f rfl rfl rfl ?_; clear f A; intro A f
       refine l_no f rfl rfl rfl ?_; clear f A; intro A f
       refine l_no f rfl rfl rfl ?_; clear f A; intro A f
       refine l_no f rfl rfl rfl ?_; clear f A; intro A f
       refine l_do f rfl rfl rfl (y_pick rfl rfl rfl) ?_; clear f A; intro A f
       refine wpList_nil ?_
       refine x_tn ?_
       refine x_condT f rfl ?_
       refine wp_seq ?_
       refine sx_list ?_
       refine l_do f rfl rfl rfl (y_assign rfl rfl) ?_; clear f A; intro A f
       refine wpList_nil ?_
       refine x_tn ?_
       refine wp_ret ?_
       refine x_tr ?_
       refine x_ret1 f rfl rfl ?_
       exact ⟨⟨_, rfl, .inr ⟨rfl, fun h => c12 h.names⟩⟩, B0⟩
     ·clear f A; intro c9 W11 hb10 A f
      replace B0 := Below.next B0 hb10; replace rb1 := row_next rb1 hb10
      refine l_do f rfl rfl rfl (y_not rfl rfl) ?_; clear f A; intro A f
      refine l_do f rfl rfl rfl (y_pick rfl rfl rfl) ?_; clear f A; intro A f
      refine l_do f rfl rfl rfl (y_move rfl rfl) ?_; clear f A; intro A f
      refine l_no f rfl rfl rfl ?_; clear f A; intro A f
      refine l_no f rfl rfl rfl ?_; clear f A; intro A f
      refine l_no f rfl rfl rfl ?_; clear f A; intro A f
      refine l_no f rfl rfl rfl ?_; clear f A; intro A f
      refine l_do f rfl rfl rfl (y_pick rfl rfl rfl) ?_; clear f A; intro A f
      refine l_do f rfl rfl rfl (y_move rfl rfl) ?_; clear f A; intro A f
      refine l_no f rfl rfl rfl ?_; clear f A; intro A f
      refine l_no f rfl rfl rfl ?_; clear f A; intro A f
      refine l_no f rfl rfl rfl ?_; clear f A; intro A f
      refine l_no f rfl rfl rfl ?_; clear f A; intro A f
      refine l_do f rfl rfl rfl (y_pick rfl rfl rfl) ?_; clear f A; intro A f
      refine wpList_nil ?_
      refine x_tn ?_
      refine x_condT f rfl ?_
      refine wp_seq ?_
      refine sx_list ?_
      refine l_do f rfl rfl rfl (y_assign rfl rfl) ?_; clear f A; intro A f
      refine wpList_nil ?_
      refine x_tn ?_
      refine wp_ret ?_
      refine x_tr ?_
      refine x_ret1 f rfl rfl ?_
      exact ⟨⟨_, rfl, .inr ⟨rfl, fun h => c9 fun c hc => h.each c.c (List.mem_map_of_mem hc)⟩⟩, B0⟩
  ·refine ⟨_, rfl, ?_⟩
   intro A f
   replace B0 := Below.next B0 hb6; replace rb1 := row_next rb1 hb6
   refine l_if _ f rfl rfl rfl (y_neq rfl rfl rfl) ?_ ?_
   ·clear f A; intro c18 A f
    refine l_do f rfl rfl rfl (y_pick rfl rfl rfl) ?_; clear f A; intro A f
    refine wpList_nil ?_
    refine x_tn ?_
    refine x_condT f rfl ?_
    refine wp_seq ?_
    refine sx_list ?_
    refine l_do f rfl rfl rfl (y_assign rfl rfl) ?_; clear f A; intro A f
    refine wpList_nil ?_
    refine x_tn ?_
    refine wp_ret ?_
    refine x_tr ?_
    refine x_ret1 f rfl rfl ?_
    exact ⟨⟨_, rfl, .inr ⟨rfl, fun h => hm h.heap⟩⟩, B0⟩
   ·intro c18; exfalso; omega
end Go.Proofs.Ytnijjpakpphhhaa
