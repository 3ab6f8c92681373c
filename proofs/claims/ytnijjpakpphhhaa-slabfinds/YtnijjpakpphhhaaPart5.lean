/-
  OWN TEXTS.
-/
import Derived.Test.YtnijjpakpphhhaaPart4
set_option maxRecDepth 10000
set_option maxHeartbeats 4000000
namespace Go.Proofs.Ytnijjpakpphhhaa
open Go Go.RowKit Go.Proofs.Ytnijjpakpphhhaa.Kit
theorem y_lenS {P : Program} {C : World → Prop} {L : List (Nat × Value)} {o : Oper} {x : Operand} {t : TypeId} {s : ByteArray} (ht : P.underlying t = some .string) (ho : o.op = .call ⟨.builtin .len, #[x], #[t]⟩) (hx : ev L x = some (.string s)) : YC P C L o (.int .i64 (s.size : Nat)) := by
 intro ρ hρ wx _
 simp [execOp, ho, resolve, invoke, builtin, hρ _ _ hx, run_len_string _ _ _ _ ht, Result.andThen]
 rfl
theorem y_indexS {P : Program} {C : World → Prop} {L : List (Nat × Value)} {o : Oper} {t : TypeId} {x ix : Operand} {s : ByteArray} {k : Nat} (ht : P.underlying t = some .string) (ho : o.op = .index t x ix) (hx : ev L x = some (.string s)) (hi : ev L ix = some (.int .i64 (k : Nat))) (hk : k < s.size) : YC P C L o (.int .u8 ((s.data.getD k 0).toNat : Nat)) := by
 intro ρ hρ wx _
 have e : s[k]? = some (s.data.getD k 0) := by
  simp [getElem?_pos, hk, Array.getD_eq_getD_getElem?]
  rfl
 simp [execOp, ho, hρ _ _ hx, hρ _ _ hi, Instr.index, asIntOf, run_under ht, e, go_sem]
theorem slIsName_any (w : World) (s : ByteArray) :
    Calls Try.prog 35 #[.string s] w fun e w' => RetB e (NameOk s) ∧ Below w.heap.size w w' := by
 have B0 := Below.refl w.heap.size w
 refine sx_enter (args := [_]) 36 Try.func35 rfl rfl rfl ?_
 intro A f
 refine wp_seq ?_
 refine sx_list ?_
 refine l_do f rfl rfl rfl (y_assign rfl rfl) ?_; clear f A; intro A f
 refine wpList_nil ?_
 refine x_tn ?_
 refine wp_seq ?_
 refine wp_seq ?_
 refine sx_list ?_
 refine l_do f rfl rfl rfl (y_move rfl rfl) ?_; clear f A; intro A f
 refine l_do f rfl rfl rfl (y_lenS Try.underlying9 rfl rfl) ?_; clear f A; intro A f
 refine l_if _ f rfl rfl rfl (y_lss rfl rfl rfl) ?_ ?_
 ·clear f A; intro c1 A f
  refine l_do f rfl rfl rfl (y_move rfl rfl) ?_; clear f A; intro A f
  refine l_no f rfl rfl rfl ?_; clear f A; intro A f
  refine l_no f rfl rfl rfl ?_; clear f A; intro A f
  refine l_no f rfl rfl rfl ?_; clear f A; intro A f
  refine l_do f rfl rfl rfl (y_pick rfl rfl rfl) ?_; clear f A; intro A f
  refine wpList_nil ?_
  refine x_tn ?_
  refine x_condT f rfl ?_
  refine wp_seq ?_
  refine sx_list ?_
  refine l_do f rfl rfl rfl (y_assign rfl rfl) ?_; clear f A; intro A f
  refine wpList_nil ?_
  refine x_tn ?_
  refine wp_ret ?_
  refine x_tr ?_
  refine x_ret1 f rfl rfl ?_
  exact ⟨retB_false (fun h => by have h1 := h.lo; have h2 := h.hi; omega), B0⟩
 ·clear f A; intro c1 A f
  refine l_do f rfl rfl rfl (y_move rfl rfl) ?_; clear f A; intro A f
  refine l_do f rfl rfl rfl (y_move rfl rfl) ?_; clear f A; intro A f
  refine l_do f rfl rfl rfl (y_lenS Try.underlying9 rfl rfl) ?_; clear f A; intro A f
  refine l_if _ f rfl rfl rfl (y_gtr rfl rfl rfl) ?_ ?_
  ·clear f A; intro c2 A f
   refine l_do f rfl rfl rfl (y_pick rfl rfl rfl) ?_; clear f A; intro A f
   refine wpList_nil ?_
   refine x_tn ?_
   refine x_condT f rfl ?_
   refine wp_seq ?_
   refine sx_list ?_
   refine l_do f rfl rfl rfl (y_assign rfl rfl) ?_; clear f A; intro A f
   refine wpList_nil ?_
   refine x_tn ?_
   refine wp_ret ?_
   refine x_tr ?_
   refine x_ret1 f rfl rfl ?_
   exact ⟨retB_false (fun h => by have h1 := h.lo; have h2 := h.hi; omega), B0⟩
  ·clear f A; intro c2 A f
   refine l_do f rfl rfl rfl (y_pick rfl rfl rfl) ?_; clear f A; intro A f
   refine wpList_nil ?_
   refine x_tn ?_
   refine x_condF f rfl ?_
   refine wp_skip ?_
   refine x_tn ?_
   refine wp_seq ?_
   refine wp_seq ?_
   refine sx_list ?_
   refine l_do f rfl rfl rfl (y_move rfl rfl) ?_; clear f A; intro A f
   refine l_do f rfl rfl rfl (y_lenS Try.underlying9 rfl rfl) ?_; clear f A; intro A f
   refine l_do f rfl rfl rfl (y_move rfl rfl) ?_; clear f A; intro A f
   refine wpList_nil ?_
   refine x_tn ?_
   refine wp_block ?_
   obtain ⟨z, hz⟩ : ∃ z, z = s.size := ⟨_, rfl⟩
   rw [← hz] at f
   refine x_loop (fun n A W => ∃ k : Nat, n = z - k ∧ k ≤ z ∧ Fr A 36 [(0, .string s), (14, .int .i64 (z : Nat)), (15, .int .i64 (k : Nat))] ∧ Below w.heap.size w W ∧ ∀ i, i < k → byteOk (s.data.getD i 0)) (n0 := z) (⟨0, rfl, Nat.zero_le _, f.sub ⟨rfl, rfl, rfl, trivial⟩, B0, fun i hi => absurd hi (Nat.not_lt_zero i)⟩) ?_
   clear f A
   clear B0
   rintro n A W3 ⟨k, hn, hk, f, B0, hd⟩
   refine wp_seq ?_
   refine sx_list ?_
   refine l_if _ f rfl rfl rfl (y_lss rfl rfl rfl) ?_ ?_
   ·clear f A; intro c4 A f
    refine wpList_nil ?_
    refine x_tn ?_
    refine wp_seq ?_
    refine x_condT f rfl ?_
    refine wp_skip ?_
    refine x_tn ?_
    refine wp_seq ?_
    refine wp_block ?_
    refine wp_seq ?_
    refine sx_list ?_
    refine l_do f rfl rfl rfl (y_move rfl rfl) ?_; clear f A; intro A f
    refine l_do f rfl rfl rfl (y_assign rfl rfl) ?_; clear f A; intro A f
    refine wpList_nil ?_
    refine x_tn ?_
    refine wp_seq ?_
    refine sx_list ?_
    refine l_do f rfl rfl rfl (y_move rfl rfl) ?_; clear f A; intro A f
    refine l_do f rfl rfl rfl (y_move rfl rfl) ?_; clear f A; intro A f
    refine l_do f rfl rfl rfl (y_indexS Try.underlying9 rfl rfl rfl (by omega)) ?_; clear f A; intro A f
    refine l_do f rfl rfl rfl (y_assign rfl rfl) ?_; clear f A; intro A f
    refine wpList_nil ?_
    refine x_tn ?_
    refine wp_seq ?_
    refine sx_list ?_
    refine l_do f rfl rfl rfl (y_move rfl rfl) ?_; clear f A; intro A f
    refine l_if _ f rfl rfl rfl (y_lss rfl rfl rfl) ?_ ?_
    ·clear f A; intro c5 A f
     refine l_do f rfl rfl rfl (y_move rfl rfl) ?_; clear f A; intro A f
     refine l_no f rfl rfl rfl ?_; clear f A; intro A f
     refine l_no f rfl rfl rfl ?_; clear f A; intro A f
     refine l_do f rfl rfl rfl (y_pick rfl rfl rfl) ?_; clear f A; intro A f
     refine l_do f rfl rfl rfl (y_move rfl rfl) ?_; clear f A; intro A f
     refine l_do f rfl rfl rfl (y_move rfl rfl) ?_; clear f A; intro A f
     refine l_if _ f rfl rfl rfl (y_lss rfl rfl rfl) ?_ ?_
     ·clear f A; intro c6 A f
      refine l_do f rfl rfl rfl (y_move rfl rfl) ?_; clear f A; intro A f
      refine l_no f rfl rfl rfl ?_; clear f A; intro A f
      refine l_no f rfl rfl rfl ?_; clear f A; intro A f
      refine l_do f rfl rfl rfl (y_pick rfl rfl rfl) ?_; clear f A; intro A f
      refine l_do f rfl rfl rfl (y_pick rfl rfl rfl) ?_; clear f A; intro A f
      refine wpList_nil ?_
      refine x_tn ?_
      refine x_condT f rfl ?_
      refine wp_seq ?_
      refine sx_list ?_
      refine l_do f rfl rfl rfl (y_assign rfl rfl) ?_; clear f A; intro A f
      refine wpList_nil ?_
      refine x_tn ?_
      refine wp_ret ?_
      refine x_br ?_
      refine x_tr ?_
      refine x_tr ?_
      refine x_br ?_
      refine x_tr ?_
      refine x_ret1 f rfl rfl ?_
      exact ⟨retB_false (fun h => by have h1 := h.at_ k (by omega); unfold byteOk at h1; omega), B0⟩
     ·clear f A; intro c6 A f
      refine l_do f rfl rfl rfl (y_move rfl rfl) ?_; clear f A; intro A f
      refine l_do f rfl rfl rfl (y_move rfl rfl) ?_; clear f A; intro A f
      refine l_if _ f rfl rfl rfl (y_gtr rfl rfl rfl) ?_ ?_
      ·clear f A; intro c7 A f
       refine l_do f rfl rfl rfl (y_pick rfl rfl rfl) ?_; clear f A; intro A f
       refine l_do f rfl rfl rfl (y_pick rfl rfl rfl) ?_; clear f A; intro A f
       refine wpList_nil ?_
       refine x_tn ?_
       refine x_condT f rfl ?_
       refine wp_seq ?_
       refine sx_list ?_
       refine l_do f rfl rfl rfl (y_assign rfl rfl) ?_; clear f A; intro A f
       refine wpList_nil ?_
       refine x_tn ?_
       refine wp_ret ?_
       refine x_br ?_
       refine x_tr ?_
       refine x_tr ?_
       refine x_br ?_
       refine x_tr ?_
       refine x_ret1 f rfl rfl ?_
       exact ⟨retB_false (fun h => by have h1 := h.at_ k (by omega); unfold byteOk at h1; omega), B0⟩
      ·clear f A; intro c7 A f
       refine l_do f rfl rfl rfl (y_pick rfl rfl rfl) ?_; clear f A; intro A f
       refine l_do f rfl rfl rfl (y_pick rfl rfl rfl) ?_; clear f A; intro A f
       refine wpList_nil ?_
       refine x_tn ?_
       refine x_condF f rfl ?_
       refine wp_skip ?_
       refine x_bn ?_
       refine x_tn ?_
       refine sx_list ?_
       refine l_do f rfl rfl rfl (y_add rfl rfl rfl rfl (by omega)) ?_; clear f A; intro A f
       refine l_do f rfl rfl rfl (y_move rfl rfl) ?_; clear f A; intro A f
       refine wpList_nil ?_
       refine x_tn ?_
       exact ⟨z - (k + 1), by omega, k + 1, rfl, by omega, f.sub ⟨rfl, rfl, rfl, trivial⟩, B0, fun i hi => by by_cases e : i = k; (subst e; unfold byteOk; omega); exact hd i (by omega)⟩
    ·clear f A; intro c5 A f
     refine l_do f rfl rfl rfl (y_move rfl rfl) ?_; clear f A; intro A f
     refine l_do f rfl rfl rfl (y_move rfl rfl) ?_; clear f A; intro A f
     refine l_if _ f rfl rfl rfl (y_gtr rfl rfl rfl) ?_ ?_
     ·clear f A; intro c8 A f
      refine l_do f rfl rfl rfl (y_pick rfl rfl rfl) ?_; clear f A; intro A f
      refine l_do f rfl rfl rfl (y_move rfl rfl) ?_; clear f A; intro A f
      refine l_do f rfl rfl rfl (y_move rfl rfl) ?_; clear f A; intro A f
      refine l_if _ f rfl rfl rfl (y_lss rfl rfl rfl) ?_ ?_
      ·clear f A; intro c9 A f
       refine l_do f rfl rfl rfl (y_move rfl rfl) ?_; clear f A; intro A f
       refine l_no f rfl rfl rfl ?_; clear f A; intro A f
       refine l_no f rfl rfl rfl ?_; clear f A; intro A f
       refine l_do f rfl rfl rfl (y_pick rfl rfl rfl) ?_; clear f A; intro A f
       refine l_do f rfl rfl rfl (y_pick rfl rfl rfl) ?_; clear f A; intro A f
       refine wpList_nil ?_
       refine x_tn ?_
       refine x_condT f rfl ?_
       refine wp_seq ?_
       refine sx_list ?_
       refine l_do f rfl rfl rfl (y_assign rfl rfl) ?_; clear f A; intro A f
       refine wpList_nil ?_
       refine x_tn ?_
       refine wp_ret ?_
       refine x_br ?_
       refine x_tr ?_
       refine x_tr ?_
       refine x_br ?_
       refine x_tr ?_
       refine x_ret1 f rfl rfl ?_
       exact ⟨retB_false (fun h => by have h1 := h.at_ k (by omega); unfold byteOk at h1; omega), B0⟩
      ·clear f A; intro c9 A f
       refine l_do f rfl rfl rfl (y_move rfl rfl) ?_; clear f A; intro A f
       refine l_do f rfl rfl rfl (y_move rfl rfl) ?_; clear f A; intro A f
       refine l_if _ f rfl rfl rfl (y_gtr rfl rfl rfl) ?_ ?_
       ·clear f A; intro c10 A f
        refine l_do f rfl rfl rfl (y_pick rfl rfl rfl) ?_; clear f A; intro A f
        refine l_do f rfl rfl rfl (y_pick rfl rfl rfl) ?_; clear f A; intro A f
        refine wpList_nil ?_
        refine x_tn ?_
        refine x_condT f rfl ?_
        refine wp_seq ?_
        refine sx_list ?_
        refine l_do f rfl rfl rfl (y_assign rfl rfl) ?_; clear f A; intro A f
        refine wpList_nil ?_
        refine x_tn ?_
        refine wp_ret ?_
        refine x_br ?_
        refine x_tr ?_
        refine x_tr ?_
        refine x_br ?_
        refine x_tr ?_
        refine x_ret1 f rfl rfl ?_
        exact ⟨retB_false (fun h => by have h1 := h.at_ k (by omega); unfold byteOk at h1; omega), B0⟩
       ·clear f A; intro c10 A f
        refine l_do f rfl rfl rfl (y_pick rfl rfl rfl) ?_; clear f A; intro A f
        refine l_do f rfl rfl rfl (y_pick rfl rfl rfl) ?_; clear f A; intro A f
        refine wpList_nil ?_
        refine x_tn ?_
        refine x_condF f rfl ?_
        refine wp_skip ?_
        refine x_bn ?_
        refine x_tn ?_
        refine sx_list ?_
        refine l_do f rfl rfl rfl (y_add rfl rfl rfl rfl (by omega)) ?_; clear f A; intro A f
        refine l_do f rfl rfl rfl (y_move rfl rfl) ?_; clear f A; intro A f
        refine wpList_nil ?_
        refine x_tn ?_
        exact ⟨z - (k + 1), by omega, k + 1, rfl, by omega, f.sub ⟨rfl, rfl, rfl, trivial⟩, B0, fun i hi => by by_cases e : i = k; (subst e; unfold byteOk; omega); exact hd i (by omega)⟩
     ·clear f A; intro c8 A f
      refine l_do f rfl rfl rfl (y_pick rfl rfl rfl) ?_; clear f A; intro A f
      refine l_do f rfl rfl rfl (y_move rfl rfl) ?_; clear f A; intro A f
      refine l_no f rfl rfl rfl ?_; clear f A; intro A f
      refine l_no f rfl rfl rfl ?_; clear f A; intro A f
      refine l_no f rfl rfl rfl ?_; clear f A; intro A f
      refine l_no f rfl rfl rfl ?_; clear f A; intro A f
      refine l_no f rfl rfl rfl ?_; clear f A; intro A f
      refine l_no f rfl rfl rfl ?_; clear f A; intro A f
      refine l_do f rfl rfl rfl (y_pick rfl rfl rfl) ?_; clear f A; intro A f
      refine wpList_nil ?_
      refine x_tn ?_
      refine x_condF f rfl ?_
      refine wp_skip ?_
      refine x_bn ?_
      refine x_tn ?_
      refine sx_list ?_
      refine l_do f rfl rfl rfl (y_add rfl rfl rfl rfl (by omega)) ?_; clear f A; intro A f
      refine l_do f rfl rfl rfl (y_move rfl rfl) ?_; clear f A; intro A f
      refine wpList_nil ?_
      refine x_tn ?_
      exact ⟨z - (k + 1), by omega, k + 1, rfl, by omega, f.sub ⟨rfl, rfl, rfl, trivial⟩, B0, fun i hi => by by_cases e : i = k; (subst e; unfold byteOk; omega); exact hd i (by omega)⟩
   ·clear f A; intro c4 A f
    refine wpList_nil ?_
    refine x_tn ?_
    refine wp_seq ?_
    refine x_condF f rfl ?_
    refine wp_exit ?_
    refine x_te ?_
    refine x_te ?_
    refine x_bh ?_
    refine x_tn ?_
    refine wp_seq ?_
    refine sx_list ?_
    refine l_do f rfl rfl rfl (y_assign rfl rfl) ?_; clear f A; intro A f
    refine wpList_nil ?_
    refine x_tn ?_
    refine wp_ret ?_
    refine x_ret1 f rfl rfl ?_
    exact ⟨retB_true ⟨by omega, by omega, fun i hi => hd i (by omega)⟩, B0⟩
theorem layN_mul {s : Int} (h : 1 ≤ s ∧ s ≤ 64) : 0 ≤ s * layN s ∧ s * layN s ≤ 64 ∧ 0 ≤ layN s ∧ layN s ≤ 64 := by
 unfold layN
 have key : ∀ K : Int, 0 ≤ K → K ≤ 64 → 0 ≤ s * (K / s) ∧ s * (K / s) ≤ 64 ∧ 0 ≤ K / s ∧ K / s ≤ 64 := fun K h0 h1 => by
  have a := Int.mul_ediv_self_le (x := K) (k := s) (by omega)
  have b : 0 ≤ K / s := Int.ediv_nonneg h0 (by omega)
  have c := Int.mul_nonneg (show 0 ≤ s by omega) b
  have d := Int.ediv_le_self s h0
  omega
 split
 ·exact key 16 (by omega) (by omega)
 ·split
  ·exact key 32 (by omega) (by omega)
  ·exact key 64 (by omega) (by omega)
theorem slFirst_c (w : World) (a : Int) (h : 0 ≤ a ∧ a < 256) :
    Calls Try.prog 67 #[.int .i64 a] w fun e w' => e = .returned (.int .i64 (16 * a)) ∧ Below w.heap.size w w' := by
 have B0 := Below.refl w.heap.size w
 refine sx_enter (args := [_]) 5 Try.func67 rfl rfl rfl ?_
 intro A f
 refine wp_seq ?_
 refine sx_list ?_
 refine l_do f rfl rfl rfl (y_assign rfl rfl) ?_; clear f A; intro A f
 refine wpList_nil ?_
 refine x_tn ?_
 refine wp_seq ?_
 refine sx_list ?_
 refine l_do f rfl rfl rfl (y_move rfl rfl) ?_; clear f A; intro A f
 refine l_do f rfl rfl rfl (y_mul rfl rfl rfl rfl (by omega)) ?_; clear f A; intro A f
 refine l_do f rfl rfl rfl (y_assign rfl rfl) ?_; clear f A; intro A f
 refine wpList_nil ?_
 refine x_tn ?_
 refine wp_ret ?_
 refine x_ret1 f rfl rfl ?_
 exact ⟨by rw [Int.mul_comm], B0⟩
theorem slIsObj_any (w : World) (c : Cc) (b : Bk) (x : Int) (hx : (Lit.int .i64 x).wf = true) (hs : 1 ≤ c.c.size ∧ c.c.size ≤ 64) (hp : c.c.per = layN c.c.size) (ha : 0 ≤ b.a ∧ b.a < 256) :
    Calls Try.prog 50 #[.agg #[.slice c.no c.nn c.nc, .int .i64 c.c.size, .int .i64 c.c.per, .int .i64 c.c.order, .slice c.so c.sn c.sc, .slice c.ao c.an c.ac], .agg #[.int .i64 b.a, .int .i64 b.o, .int .i64 b.t], .int .i64 x] w fun e w' => RetB e (objAt c.c b x) ∧ Below w.heap.size w w' := by
 unfold objAt
 have hm := layN_mul hs
 rw [← hp] at hm
 have hw := wf_top hx
 have B0 := Below.refl w.heap.size w
 refine sx_enter (args := [_, _, _]) 34 Try.func50 rfl rfl rfl ?_
 intro A f
 refine wp_seq ?_
 refine sx_list ?_
 refine l_box f rfl rfl rfl rfl rfl ?_; clear f A; intro b1 W2 eb1 hb3 rb1 A f; dsimp only [Value.cells] at rb1
 have z_B0_b1 := B0.size; rw [eb1] at z_B0_b1
 replace B0 := Below.next B0 hb3
 refine l_box f rfl rfl rfl rfl rfl ?_; clear f A; intro b4 W5 eb4 hb6 rb4 A f; dsimp only [Value.cells] at rb4
 have o_b1_b4 : b1 < b4 := by have := row_lt rb1; omega
 have z_B0_b4 := B0.size; rw [eb4] at z_B0_b4
 replace B0 := Below.next B0 hb6; replace rb1 := row_next rb1 hb6
 refine l_do f rfl rfl rfl (y_assign rfl rfl) ?_; clear f A; intro A f
 refine wpList_nil ?_
 refine x_tn ?_
 refine wp_seq ?_
 refine sx_list ?_
 refine l_do f rfl rfl rfl (y_field rfl rfl (fo rfl)) ?_; clear f A; intro A f
 refine l_do f rfl rfl rfl (y_load1 rfl rfl (ag rfl) (rowl (rowq rb4) rfl)) ?_; clear f A; intro A f
 refine l_call f rfl rfl rfl (IsCall.mk' (cap := []) rfl rfl rfl) (pl rfl) (slFirst_c _ b.a ⟨by omega, by omega⟩) ?_; clear f A; rintro _ W7 ⟨rfl, hb8⟩; refine ⟨_, rfl, ?_⟩; intro A f; replace B0 := Below.next B0 hb8; replace rb1 := row_next rb1 hb8; replace rb4 := row_next rb4 hb8
 refine l_do f rfl rfl rfl (y_assign rfl rfl) ?_; clear f A; intro A f
 refine wpList_nil ?_
 refine x_tn ?_
 refine wp_seq ?_
 refine sx_list ?_
 refine l_do f rfl rfl rfl (y_move rfl rfl) ?_; clear f A; intro A f
 refine l_do f rfl rfl rfl (y_move rfl rfl) ?_; clear f A; intro A f
 refine l_if _ f rfl rfl rfl (y_geq rfl rfl rfl) ?_ ?_
 ·clear f A; intro c9 A f
  refine l_do f rfl rfl rfl (y_move rfl rfl) ?_; clear f A; intro A f
  refine l_do f rfl rfl rfl (y_move rfl rfl) ?_; clear f A; intro A f
  refine l_do f rfl rfl rfl (y_move rfl rfl) ?_; clear f A; intro A f
  refine l_do f rfl rfl rfl (y_sub rfl rfl rfl rfl (by omega)) ?_; clear f A; intro A f
  refine l_do f rfl rfl rfl (y_field rfl rfl (fo rfl)) ?_; clear f A; intro A f
  refine l_do f rfl rfl rfl (y_load1 rfl rfl (ag rfl) (rowl (rowq rb1) rfl)) ?_; clear f A; intro A f
  refine l_do f rfl rfl rfl (y_field rfl rfl (fo rfl)) ?_; clear f A; intro A f
  refine l_do f rfl rfl rfl (y_load1 rfl rfl (ag rfl) (rowl (rowq rb1) rfl)) ?_; clear f A; intro A f
  refine l_do f rfl rfl rfl (y_mul rfl rfl rfl rfl (by omega)) ?_; clear f A; intro A f
  refine l_if _ f rfl rfl rfl (y_lss rfl rfl rfl) ?_ ?_
  ·clear f A; intro c10 A f
   refine l_do f rfl rfl rfl (y_pick rfl rfl rfl) ?_; clear f A; intro A f
   refine l_do f rfl rfl rfl (y_move rfl rfl) ?_; clear f A; intro A f
   refine l_do f rfl rfl rfl (y_move rfl rfl) ?_; clear f A; intro A f
   refine l_do f rfl rfl rfl (y_move rfl rfl) ?_; clear f A; intro A f
   refine l_do f rfl rfl rfl (y_sub rfl rfl rfl rfl (by omega)) ?_; clear f A; intro A f
   refine l_do f rfl rfl rfl (y_field rfl rfl (fo rfl)) ?_; clear f A; intro A f
   refine l_do f rfl rfl rfl (y_load1 rfl rfl (ag rfl) (rowl (rowq rb1) rfl)) ?_; clear f A; intro A f
   refine l_do f rfl rfl rfl (y_rem rfl rfl rfl (by omega) (Int.tmod_eq_emod_of_nonneg (by omega))) ?_; clear f A; intro A f
   refine l_if _ f rfl rfl rfl (y_eql rfl rfl rfl) ?_ ?_
   ·clear f A; intro c11 A f
    refine l_do f rfl rfl rfl (y_pick rfl rfl rfl) ?_; clear f A; intro A f
    refine l_do f rfl rfl rfl (y_assign rfl rfl) ?_; clear f A; intro A f
    refine wpList_nil ?_
    refine x_tn ?_
    refine wp_ret ?_
    refine x_ret1 f rfl rfl ?_
    exact ⟨retB_true ⟨by omega, by omega, by omega⟩, B0⟩
   ·clear f A; intro c11 A f
    refine l_do f rfl rfl rfl (y_pick rfl rfl rfl) ?_; clear f A; intro A f
    refine l_do f rfl rfl rfl (y_assign rfl rfl) ?_; clear f A; intro A f
    refine wpList_nil ?_
    refine x_tn ?_
    refine wp_ret ?_
    refine x_ret1 f rfl rfl ?_
    exact ⟨retB_false (fun h => by obtain ⟨h1, h2, h3⟩ := h; omega), B0⟩
  ·clear f A; intro c10 A f
   refine l_do f rfl rfl rfl (y_pick rfl rfl rfl) ?_; clear f A; intro A f
   refine l_do f rfl rfl rfl (y_move rfl rfl) ?_; clear f A; intro A f
   refine l_no f rfl rfl rfl ?_; clear f A; intro A f
   refine l_no f rfl rfl rfl ?_; clear f A; intro A f
   refine l_no f rfl rfl rfl ?_; clear f A; intro A f
   refine l_no f rfl rfl rfl ?_; clear f A; intro A f
   refine l_no f rfl rfl rfl ?_; clear f A; intro A f
   refine l_no f rfl rfl rfl ?_; clear f A; intro A f
   refine l_no f rfl rfl rfl ?_; clear f A; intro A f
   refine l_do f rfl rfl rfl (y_pick rfl rfl rfl) ?_; clear f A; intro A f
   refine l_do f rfl rfl rfl (y_assign rfl rfl) ?_; clear f A; intro A f
   refine wpList_nil ?_
   refine x_tn ?_
   refine wp_ret ?_
   refine x_ret1 f rfl rfl ?_
   exact ⟨retB_false (fun h => by obtain ⟨h1, h2, h3⟩ := h; omega), B0⟩
 ·clear f A; intro c9 A f
  refine l_do f rfl rfl rfl (y_move rfl rfl) ?_; clear f A; intro A f
  refine l_no f rfl rfl rfl ?_; clear f A; intro A f
  refine l_no f rfl rfl rfl ?_; clear f A; intro A f
  refine l_no f rfl rfl rfl ?_; clear f A; intro A f
  refine l_no f rfl rfl rfl ?_; clear f A; intro A f
  refine l_no f rfl rfl rfl ?_; clear f A; intro A f
  refine l_no f rfl rfl rfl ?_; clear f A; intro A f
  refine l_no f rfl rfl rfl ?_; clear f A; intro A f
  refine l_no f rfl rfl rfl ?_; clear f A; intro A f
  refine l_no f rfl rfl rfl ?_; clear f A; intro A f
  refine l_do f rfl rfl rfl (y_pick rfl rfl rfl) ?_; clear f A; intro A f
  refine l_do f rfl rfl rfl (y_move rfl rfl) ?_; clear f A; intro A f
  refine l_no f rfl rfl rfl ?_; clear f A; intro A f
  refine l_no f rfl rfl rfl ?_; clear f A; intro A f
  refine l_no f rfl rfl rfl ?_; clear f A; intro A f
  refine l_no f rfl rfl rfl ?_; clear f A; intro A f
  refine l_no f rfl rfl rfl ?_; clear f A; intro A f
  refine l_no f rfl rfl rfl ?_; clear f A; intro A f
  refine l_no f rfl rfl rfl ?_; clear f A; intro A f
  refine l_do f rfl rfl rfl (y_pick rfl rfl rfl) ?_; clear f A; intro A f
  refine l_do f rfl rfl rfl (y_assign rfl rfl) ?_; clear f A; intro A f
  refine wpList_nil ?_
  refine x_tn ?_
  refine wp_ret ?_
  refine x_ret1 f rfl rfl ?_
  exact ⟨retB_false (fun h => by obtain ⟨h1, h2, h3⟩ := h; omega), B0⟩
def slabV (x : Bk) : Value := .agg #[.int .i64 x.a, .int .i64 x.o, .int .i64 x.t]
def slabFound (e : Ending) (n : Nat) (l : List Bk) (g : Bk → Prop) : Prop :=
 (∃ k : Nat, k < n ∧ e = .returned (.int .i64 (k : Nat)) ∧ g (l.getD k .zero) ∧ ∀ j, j < k → ¬ g (l.getD j .zero)) ∨ (e = .returned (.int .i64 (-1)) ∧ ∀ j, j < n → ¬ g (l.getD j .zero))
theorem slabIndex_any (w : World) (F : Nat) (cs : List Value) (hp : Plain Try.prog F) (ao : Option Addr) (n cap : Nat) (l : List Bk) (g : Bk → Prop) (h : Blks w ao n l) (hc : ∀ i, i < n → ∀ W : World, Below w.heap.size w W → Calls Try.prog F (List.toArray ([slabV (l.getD i .zero)] ++ cs)) W fun e W' => RetB e (g (l.getD i .zero)) ∧ Below W.heap.size W W') :
    Calls Try.prog 48 #[.slice ao n cap, .func (.func F) #[] cs.toArray] w fun e w' => slabFound e n l g ∧ Below w.heap.size w w' := by
 have hlr := h.reach
 have hll := h.len
 have B0 := Below.refl w.heap.size w
 refine sx_enter (args := [_, _]) 19 Try.func48 rfl rfl rfl ?_
 intro A f
 refine wp_seq ?_
 refine sx_list ?_
 refine l_do f rfl rfl rfl (y_assign rfl rfl) ?_; clear f A; intro A f
 refine wpList_nil ?_
 refine x_tn ?_
 refine wp_seq ?_
 refine wp_seq ?_
 refine sx_list ?_
 refine l_do f rfl rfl rfl (y_move rfl rfl) ?_; clear f A; intro A f
 refine l_do f rfl rfl rfl (y_len rfl rfl (sl rfl)) ?_; clear f A; intro A f
 refine l_do f rfl rfl rfl (y_move rfl rfl) ?_; clear f A; intro A f
 refine wpList_nil ?_
 refine x_tn ?_
 refine wp_block ?_
 refine x_loop (fun m A W => ∃ k : Nat, m = n - k ∧ k ≤ n ∧ Fr A 19 [(0, .slice ao n cap), (1, .func (.func F) #[] cs.toArray), (7, .int .i64 (n : Nat)), (8, .int .i64 (k : Nat))] ∧ Below w.heap.size w W ∧ ∀ j, j < k → ¬ g (l.getD j .zero)) (n0 := n) (⟨0, rfl, Nat.zero_le _, f.sub ⟨rfl, rfl, rfl, rfl, trivial⟩, B0, fun j hj => absurd hj (Nat.not_lt_zero j)⟩) ?_
 clear f A
 clear B0
 rintro m A W1 ⟨k, hn, hk, f, B0, hno⟩
 refine wp_seq ?_
 refine sx_list ?_
 refine l_if _ f rfl rfl rfl (y_lss rfl rfl rfl) ?_ ?_
 ·clear f A; intro c2 A f
  refine wpList_nil ?_
  refine x_tn ?_
  refine wp_seq ?_
  refine x_condT f rfl ?_
  refine wp_skip ?_
  refine x_tn ?_
  refine wp_seq ?_
  refine wp_block ?_
  refine wp_seq ?_
  refine sx_list ?_
  refine l_do f rfl rfl rfl (y_move rfl rfl) ?_; clear f A; intro A f
  refine l_do f rfl rfl rfl (y_assign rfl rfl) ?_; clear f A; intro A f
  refine wpList_nil ?_
  refine x_tn ?_
  refine wp_seq ?_
  refine sx_list ?_
  refine l_do f rfl rfl rfl (y_move rfl rfl) ?_; clear f A; intro A f
  refine l_do f rfl rfl rfl (y_move rfl rfl) ?_; clear f A; intro A f
  refine l_do f rfl rfl rfl (y_move rfl rfl) ?_; clear f A; intro A f
  obtain ⟨ge, oe, bae, boe, bte, hae, c0e, c1e, c2e, hXe⟩ := h.at_.at (k) (by have := h.len; omega)
  replace c0e := St.of c0e; replace c1e := St.of c1e; replace c2e := St.of c2e
  refine l_do f rfl rfl rfl (y_index rfl rfl (by first | rfl | assumption) rfl (es rfl) (by omega)) ?_; clear f A; intro A f
  refine l_do f rfl rfl rfl (y_loadN (vs := [_, _, _]) rfl rfl (ag rfl) rfl ⟨(by first | assumption | exact St.q c0e B0 | exact St.q c1e B0 | exact St.q c2e B0), (by first | assumption | exact St.q c0e B0 | exact St.q c1e B0 | exact St.q c2e B0), (by first | assumption | exact St.q c0e B0 | exact St.q c1e B0 | exact St.q c2e B0), trivial⟩) ?_; clear f A; intro A f
  have hcl := hc k (by omega) _ B0
  rw [hXe.out] at hcl
  refine l_callB _ f rfl rfl rfl (IsCall.mk' (cap := cs) rfl rfl rfl) hp hcl ?_ ?_
  ·clear f A; intro hng W4 hb3 A f
   rw [← hXe.out] at hng
   replace B0 := Below.next B0 hb3
   refine wpList_nil ?_
   refine x_tn ?_
   refine x_condT f rfl ?_
   refine wp_seq ?_
   refine sx_list ?_
   refine l_do f rfl rfl rfl (y_move rfl rfl) ?_; clear f A; intro A f
   refine l_do f rfl rfl rfl (y_assign rfl rfl) ?_; clear f A; intro A f
   refine wpList_nil ?_
   refine x_tn ?_
   refine wp_ret ?_
   refine x_br ?_
   refine x_tr ?_
   refine x_tr ?_
   refine x_br ?_
   refine x_tr ?_
   refine x_ret1 f rfl rfl ?_
   exact ⟨.inl ⟨k, by omega, rfl, hng, hno⟩, B0⟩
  ·clear f A; intro hng W4 hb3 A f
   rw [← hXe.out] at hng
   replace B0 := Below.next B0 hb3
   refine wpList_nil ?_
   refine x_tn ?_
   refine x_condF f rfl ?_
   refine wp_skip ?_
   refine x_bn ?_
   refine x_tn ?_
   refine sx_list ?_
   refine l_do f rfl rfl rfl (y_add rfl rfl rfl rfl (by omega)) ?_; clear f A; intro A f
   refine l_do f rfl rfl rfl (y_move rfl rfl) ?_; clear f A; intro A f
   refine wpList_nil ?_
   refine x_tn ?_
   exact ⟨n - (k + 1), by omega, k + 1, rfl, by omega, f.sub ⟨rfl, rfl, rfl, rfl, trivial⟩, B0, fun j hj => by by_cases e : j = k; (subst e; exact hng); exact hno j (by omega)⟩
 ·clear f A; intro c2 A f
  refine wpList_nil ?_
  refine x_tn ?_
  refine wp_seq ?_
  refine x_condF f rfl ?_
  refine wp_exit ?_
  refine x_te ?_
  refine x_te ?_
  refine x_bh ?_
  refine x_tn ?_
  refine wp_seq ?_
  refine sx_list ?_
  refine l_do f rfl rfl rfl (y_assign rfl rfl) ?_; clear f A; intro A f
  refine wpList_nil ?_
  refine x_tn ?_
  refine wp_ret ?_
  refine x_ret1 f rfl rfl ?_
  exact ⟨.inr ⟨rfl, fun j hj => hno j (by omega)⟩, B0⟩
theorem slabContains_any (w : World) (F : Nat) (cs : List Value) (hp : Plain Try.prog F) (ao : Option Addr) (n cap : Nat) (l : List Bk) (g : Bk → Prop) (h : Blks w ao n l) (hc : ∀ i, i < n → ∀ W : World, Below w.heap.size w W → Calls Try.prog F (List.toArray ([slabV (l.getD i .zero)] ++ cs)) W fun e W' => RetB e (g (l.getD i .zero)) ∧ Below W.heap.size W W') :
    Calls Try.prog 85 #[.slice ao n cap, .func (.func F) #[] cs.toArray] w fun e w' => RetB e (∃ k, k < n ∧ g (l.getD k .zero)) ∧ Below w.heap.size w w' := by
 have B0 := Below.refl w.heap.size w
 refine sx_enter (args := [_, _]) 9 Try.func85 rfl rfl rfl ?_
 intro A f
 refine wp_seq ?_
 refine sx_list ?_
 refine l_do f rfl rfl rfl (y_assign rfl rfl) ?_; clear f A; intro A f
 refine wpList_nil ?_
 refine x_tn ?_
 refine wp_seq ?_
 refine sx_list ?_
 refine l_do f rfl rfl rfl (y_move rfl rfl) ?_; clear f A; intro A f
 refine l_do f rfl rfl rfl (y_move rfl rfl) ?_; clear f A; intro A f
 refine l_call f rfl rfl rfl (IsCall.mk' (cap := []) rfl rfl rfl) (pl rfl) (slabIndex_any _ F cs hp ao n cap l g h hc) ?_; clear f A; rintro _ W1 ⟨hF, hb2⟩
 rcases hF with ⟨k, hk, rfl, hg, -⟩ | ⟨rfl, hg⟩
 ·refine ⟨_, rfl, ?_⟩
  intro A f
  replace B0 := Below.next B0 hb2
  refine l_if _ f rfl rfl rfl (y_geq rfl rfl rfl) ?_ ?_
  ·clear f A; intro c3 A f
   refine l_do f rfl rfl rfl (y_assign rfl rfl) ?_; clear f A; intro A f
   refine wpList_nil ?_
   refine x_tn ?_
   refine wp_ret ?_
   refine x_ret1 f rfl rfl ?_
   exact ⟨retB_true ⟨k, hk, hg⟩, B0⟩
  ·intro c3; exfalso; omega
 ·refine ⟨_, rfl, ?_⟩
  intro A f
  replace B0 := Below.next B0 hb2
  refine l_if _ f rfl rfl rfl (y_geq rfl rfl rfl) ?_ ?_
  ·intro c4; exfalso; omega
  ·clear f A; intro c4 A f
   refine l_do f rfl rfl rfl (y_assign rfl rfl) ?_; clear f A; intro A f
   refine wpList_nil ?_
   refine x_tn ?_
   refine wp_ret ?_
   refine x_ret1 f rfl rfl ?_
   exact ⟨retB_false (fun ⟨k, hk, h⟩ => hg k hk h), B0⟩
def HoldsI (F : Nat) (caps : Array Value) (l : List Int) (g : Int → Bool) (w : World) : Prop :=
 ∀ (i : Nat), i < l.length → ∀ W : World, Below w.heap.size w W → Calls Try.prog F (#[Value.int .i64 (l.getD i 0)] ++ caps) W fun e W' => e = .returned (.bool (g (l.getD i 0))) ∧ Below W.heap.size W W'
def FoundI (e : Ending) (l : List Int) (g : Int → Bool) : Prop :=
 (∃ k : Nat, k < l.length ∧ e = .returned (.int .i64 (k : Int)) ∧ g (l.getD k 0) = true ∧ ∀ j, j < k → g (l.getD j 0) = false) ∨ (e = .returned (.int .i64 (-1)) ∧ ∀ j, j < l.length → g (l.getD j 0) = false)
theorem iIndex_any (w : World) (F : Nat) (caps : Array Value) (ao : Option Addr) (n cap : Nat) (l : List Int) (g : Int → Bool) (h : Nums w ao n l)
    (hcall : ∀ args W, (callFunc F args).run Try.prog W = .ok (.enter F args) W) (hc : HoldsI F caps l g w) :
    Calls Try.prog 93 #[.slice ao n cap, .func (.func F) #[] caps] w fun e w' => FoundI e l g ∧ Below w.heap.size w w' := by
 have hlen := h.len
 have hrch := h.reach
 go_enter Try.func93, Try.ntmps93
 go_wp2
 go_loopw [8] (fun i wr => ∃ k : Nat, k ≤ n ∧ i = .int .i64 k ∧ Hid (∀ j, j < k → g (l.getD j 0) = false) ∧ Below w.heap.size w wr) (fun i _ => n - (intOf i).toNat)
 case atStart => exact ⟨0, Nat.zero_le _, rfl, (fun j hj => absurd hj (Nat.not_lt_zero j)), Below.refl _ _⟩
 case round =>
  obtain ⟨k, hk, rfl, hN, hb⟩ := hrel
  by_cases hlt : k < n
  ·obtain ⟨b, o, rfl, c0⟩ := h.at_ k (by omega)
   have hc1 := hc k (by omega) wr hb
   obtain ⟨x, hr⟩ : ∃ x, l.getD k 0 = x := ⟨_, rfl⟩
   have HR : Hid (l.getD k 0 = x) := hr
   rw [hr] at c0 hc1
   clear hr
   have d0 := keep c0 hb
   clear c0
   go_wp2_with fail
   refine hc1.mono ?_
   rintro e w1 ⟨rfl, hb1⟩
   have hB := hb.trans (hb1.mono hb.size)
   clear hc1 d0 hc
   cases hg : g x with
   | true =>
    have HT : Hid (g (l.getD k 0) = true) := by show _ = _; rw [HR.out]; exact hg
    clear hg
    go_wp2
    go_ret
    exact ⟨.inl ⟨k, by omega, rfl, HT.out, hN.out⟩, hB⟩
   | false =>
    have HF : Hid (∀ j, j < k + 1 → g (l.getD j 0) = false) := fun j hj => by
     by_cases e : j = k
     ·rw [e, HR.out]; exact hg
     ·exact hN.out j (by omega)
    clear hg hN
    go_wp2
    go_roundw
    case rel => exact ⟨k + 1, by omega, by go_num, HF, hB⟩
    case measure => simp [intOf]; omega
  ·have HF : Hid (∀ j, j < l.length → g (l.getD j 0) = false) := fun j hj => hN.out j (by omega)
   clear hN hc
   go_wp2
   go_ret
   exact ⟨.inr ⟨rfl, HF.out⟩, hb⟩
theorem anyI_of_found {l : List Int} {g : Int → Bool} {k : Nat} (hk : k < l.length) (h : g (l.getD k 0) = true) : l.any g = true := by
 rw [List.any_eq_true]
 exact ⟨l[k], List.getElem_mem _, by rw [List.getD_eq_getElem?_getD, List.getElem?_eq_getElem hk] at h; exact h⟩
theorem anyI_of_none {l : List Int} {g : Int → Bool} (h : ∀ j, j < l.length → g (l.getD j 0) = false) : l.any g = false := by
 rw [List.any_eq_false]
 intro x hx
 obtain ⟨i, hi, rfl⟩ := List.getElem_of_mem hx
 have := h i hi
 rw [List.getD_eq_getElem?_getD, List.getElem?_eq_getElem hi] at this
 simp only [Option.getD_some] at this
 simp [this]
theorem iContains_any (w : World) (F : Nat) (caps : Array Value) (ao : Option Addr) (n cap : Nat) (l : List Int) (g : Int → Bool) (h : Nums w ao n l)
    (hcall : ∀ args W, (callFunc F args).run Try.prog W = .ok (.enter F args) W) (hc : HoldsI F caps l g w) :
    Calls Try.prog 75 #[.slice ao n cap, .func (.func F) #[] caps] w fun e w' => e = .returned (.bool (l.any g)) ∧ Below w.heap.size w w' := by
 go_enter Try.func75, Try.ntmps75
 go_wp2_with fail
 go_at_call 93
 refine (iIndex_any w F caps ao n cap l g h hcall hc).mono ?_
 rintro e w1 ⟨hf, hb⟩
 rcases hf with ⟨k, hk, rfl, hg, _⟩ | ⟨rfl, hg⟩
 ·have HF : Hid (l.any g = true) := anyI_of_found hk hg
  clear hg hc
  go_wp2
  go_ret
  exact ⟨ret_bool HF.out.symm, hb⟩
 ·have HF : Hid (l.any g = false) := anyI_of_none hg
  clear hg hc
  go_wp2
  go_ret
  exact ⟨ret_bool HF.out.symm, hb⟩
theorem iContainsB (w : World) (F : Nat) (cs : List Value) (hp : Plain Try.prog F) (ao : Option Addr) (n cap : Nat) (l : List Int) (g : Int → Prop) (h : Nums w ao n l) (hc : ∀ i, i < n → ∀ W : World, Below w.heap.size w W → Calls Try.prog F (List.toArray ([.int .i64 (l.getD i 0)] ++ cs)) W fun e W' => RetB e (g (l.getD i 0)) ∧ Below W.heap.size W W') :
    Calls Try.prog 75 #[.slice ao n cap, .func (.func F) #[] cs.toArray] w fun e w' => RetB e (∃ k, k < n ∧ g (l.getD k 0)) ∧ Below w.heap.size w w' := by
 have inst := fun y => Classical.propDecidable (g y)
 have hc' : HoldsI F cs.toArray l (fun y => decide (g y)) w := by
  intro i hi W hW
  have e0 : (#[Value.int .i64 (l.getD i 0)] ++ cs.toArray) = List.toArray ([.int .i64 (l.getD i 0)] ++ cs) := by simp
  rw [e0]
  refine (hc i (by have := h.len; omega) W hW).mono fun e W' h1 => ?_
  obtain ⟨⟨r, rfl, hr⟩, hb⟩ := h1
  refine ⟨?_, hb⟩
  have : r = decide (g (l.getD i 0)) := by
   cases r with
   | true => rw [decide_eq_true (hr.1 rfl)]
   | false => rw [decide_eq_false (fun h => by cases hr.2 h)]
  rw [this]
 refine (iContains_any w F cs.toArray ao n cap l (fun y => decide (g y)) h (fun args W => hp args W) hc').mono fun e w' h1 => ?_
 ·obtain ⟨rfl, hb⟩ := h1
  refine ⟨⟨_, rfl, ?_⟩, hb⟩
  have hl := h.len
  rw [List.any_eq_true]
  constructor
  ·rintro ⟨y, hy, hd⟩
   obtain ⟨i, hi, rfl⟩ := List.getElem_of_mem hy
   exact ⟨i, by omega, by rw [List.getD_eq_getElem?_getD, List.getElem?_eq_getElem hi]; exact of_decide_eq_true hd⟩
  ·rintro ⟨k, hk, hg⟩
   exact ⟨_, getD_mem (d := (0 : Int)) (show k < l.length by omega), decide_eq_true hg⟩
theorem fol_in {xs : List Int} : ∀ {m : Nat} {a : Int} {l : List Int}, fol xs m a = some l → ∀ y ∈ l, 0 ≤ y ∧ y < xs.length
 | 0, a, l, h, y, hy => by
  unfold fol at h
  split at h
  ·cases h; cases hy
  ·cases h
 | m + 1, a, l, h, y, hy => by
  unfold fol at h
  split at h
  ·cases h; cases hy
  ·split at h
   ·rename_i h2
    cases hf : fol xs m (xs.getD a.toNat 0) with
    | none => rw [hf] at h; cases h
    | some l2 =>
     rw [hf] at h
     cases h
     rcases List.mem_cons.1 hy with rfl | hy
     ·exact h2
     ·exact fol_in hf y hy
   ·cases h
theorem fol_len {xs : List Int} : ∀ {m : Nat} {a : Int} {l : List Int}, fol xs m a = some l → l.length ≤ m
 | 0, a, l, h => by
  unfold fol at h
  split at h
  ·cases h; exact Nat.le_refl _
  ·cases h
 | m + 1, a, l, h => by
  unfold fol at h
  split at h
  ·cases h; exact Nat.zero_le _
  ·split at h
   ·cases hf : fol xs m (xs.getD a.toNat 0) with
    | none => rw [hf] at h; cases h
    | some l2 =>
     rw [hf] at h
     cases h
     have := fol_len hf
     simp only [List.length_cons]
     omega
   ·cases h
theorem follow_b (w : World) (ao : Option Addr) (n cap : Nat) (a most : Int) (xs : List Int) (hn : xs.length = n) (hr : n * 8 ≤ 140737488351232) (hx : IntsAt w ao xs) :
    Calls Try.prog 68 #[.slice ao n cap, .int .i64 a, .int .i64 most] w fun e w' => (∃ lo ln lc er, e = .returned (.tuple #[.slice lo ln lc, .int .i64 er]) ∧ ((er ≠ 0 ∧ ln = 0 ∧ (most < 0 ∨ fol xs (min most.toNat xs.length) a = none)) ∨ ∃ l : List Int, er = 0 ∧ Nums w' lo ln l ∧ 0 ≤ most ∧ fol xs (min most.toNat xs.length) a = some l ∧ ∀ y ∈ l, (Lit.int .i64 y).wf = true)) ∧ Below w.heap.size w w' := by
 by_cases h0 : most < 0
 ·refine (follow_neg w ao n cap a most h0).mono ?_
  rintro e w' ⟨rfl, rfl⟩
  exact ⟨⟨_, _, _, _, rfl, .inl ⟨by decide, rfl, .inl h0⟩⟩, Below.refl _ _⟩
 ·obtain ⟨k, rfl⟩ := Int.eq_ofNat_of_zero_le (show 0 ≤ most by omega)
  refine (follow_any w ao n cap a k xs hn hr hx).mono ?_
  rintro e w' ⟨h1, hb⟩
  have ek : ((k : Nat) : Int).toNat = k := Int.toNat_natCast k
  cases hf : fol xs (min k n) a with
  | none =>
   rw [hf] at h1
   cases h1
   exact ⟨⟨_, _, _, _, rfl, .inl ⟨by decide, rfl, .inr (by rw [ek, hn]; exact hf)⟩⟩, hb⟩
  | some l =>
   rw [hf] at h1
   obtain ⟨bo, c, rfl, ho⟩ := h1
   have hin := fol_in hf
   have hll : l.length * 8 ≤ 140737488351232 := by have := fol_len hf; omega
   exact ⟨⟨_, _, _, _, rfl, .inr ⟨l, rfl, nums_of_owns ho hll, by omega, by rw [ek, hn]; exact hf, fun y hy => WalkArith.wf_i64 (by have := hin y hy; omega)⟩⟩, hb⟩
theorem slChainF_any (w : World) (c : Cc) (b : Bk) (y : Int) (p q : Nat) (rp : w.heap[p]? = some (.cells #[.slice c.no c.nn c.nc, .int .i64 c.c.size, .int .i64 c.c.per, .int .i64 c.c.order, .slice c.so c.sn c.sc, .slice c.ao c.an c.ac] 45 (0, 0))) (rq : w.heap[q]? = some (.cells #[.int .i64 b.a, .int .i64 b.o, .int .i64 b.t] 49 (0, 0))) (hy : (Lit.int .i64 y).wf = true) (hs : 1 ≤ c.c.size ∧ c.c.size ≤ 64) (hp : c.c.per = layN c.c.size) (ha : 0 ≤ b.a ∧ b.a < 256) :
    Calls Try.prog 96 #[.int .i64 y, .pointer (some ⟨p, 0, none⟩), .pointer (some ⟨q, 0, none⟩)] w fun e w' => RetB e (¬ objAt c.c b y) ∧ Below w.heap.size w w' := by
 have B0 := Below.refl w.heap.size w
 refine sx_enter (args := [_, _, _]) 10 Try.func96 rfl rfl rfl ?_
 intro A f
 refine wp_seq ?_
 refine sx_list ?_
 refine l_do f rfl rfl rfl (y_assign rfl rfl) ?_; clear f A; intro A f
 refine wpList_nil ?_
 refine x_tn ?_
 refine wp_seq ?_
 refine sx_list ?_
 refine l_do f rfl rfl rfl (y_loadN (vs := [_, _, _, _, _, _]) rfl rfl (ag rfl) rfl (rowls (rowq rp) _ _ ⟨rfl, rfl, rfl, rfl, rfl, rfl, trivial⟩)) ?_; clear f A; intro A f
 refine l_do f rfl rfl rfl (y_loadN (vs := [_, _, _]) rfl rfl (ag rfl) rfl (rowls (rowq rq) _ _ ⟨rfl, rfl, rfl, trivial⟩)) ?_; clear f A; intro A f
 refine l_do f rfl rfl rfl (y_move rfl rfl) ?_; clear f A; intro A f
 refine l_callB _ f rfl rfl rfl (IsCall.mk' (cap := []) rfl rfl rfl) (pl rfl) (slIsObj_any _ c b y hy hs hp ha) ?_ ?_
 ·clear f A; intro c1 W3 hb2 A f
  replace B0 := Below.next B0 hb2; replace rp := row_next rp hb2; replace rq := row_next rq hb2
  refine l_do f rfl rfl rfl (y_not rfl rfl) ?_; clear f A; intro A f
  refine l_do f rfl rfl rfl (y_assign rfl rfl) ?_; clear f A; intro A f
  refine wpList_nil ?_
  refine x_tn ?_
  refine wp_ret ?_
  refine x_ret1 f rfl rfl ?_
  exact ⟨retB_false (fun h => h c1), B0⟩
 ·clear f A; intro c1 W3 hb2 A f
  replace B0 := Below.next B0 hb2; replace rp := row_next rp hb2; replace rq := row_next rq hb2
  refine l_do f rfl rfl rfl (y_not rfl rfl) ?_; clear f A; intro A f
  refine l_do f rfl rfl rfl (y_assign rfl rfl) ?_; clear f A; intro A f
  refine wpList_nil ?_
  refine x_tn ?_
  refine wp_ret ?_
  refine x_ret1 f rfl rfl ?_
  exact ⟨retB_true c1, B0⟩
theorem slChainMay_any (w : World) (x : Sy) (c : Cc) (b : Bk) (hx : x.At w) (hs : 1 ≤ c.c.size ∧ c.c.size ≤ 64) (hp : c.c.per = layN c.c.size) (ha : 0 ≤ b.a ∧ b.a < 256) :
    Calls Try.prog 84 #[.agg #[.slice x.wo x.wn x.wc, .slice x.h.zo x.h.zn x.h.zc, .slice x.h.mo x.h.mn x.h.mc, .int .i64 x.h.cpus, .slice x.h.lo x.h.ln x.h.lc, .slice x.h.vo x.h.vn x.h.vc, .slice x.co x.cn x.cc], .agg #[.slice c.no c.nn c.nc, .int .i64 c.c.size, .int .i64 c.c.per, .int .i64 c.c.order, .slice c.so c.sn c.sc, .slice c.ao c.an c.ac], .agg #[.int .i64 b.a, .int .i64 b.o, .int .i64 b.t]] w fun e w' => RetB e (ChainOk x.words c.c b) ∧ Below w.heap.size w w' := by
 have B0 := Below.refl w.heap.size w
 refine sx_enter (args := [_, _, _]) 32 Try.func84 rfl rfl rfl ?_
 intro A f
 refine wp_seq ?_
 refine sx_list ?_
 refine l_box f rfl rfl rfl rfl rfl ?_; clear f A; intro b1 W2 eb1 hb3 rb1 A f; dsimp only [Value.cells] at rb1
 have z_B0_b1 := B0.size; rw [eb1] at z_B0_b1
 replace B0 := Below.next B0 hb3
 refine l_box f rfl rfl rfl rfl rfl ?_; clear f A; intro b4 W5 eb4 hb6 rb4 A f; dsimp only [Value.cells] at rb4
 have o_b1_b4 : b1 < b4 := by have := row_lt rb1; omega
 have z_B0_b4 := B0.size; rw [eb4] at z_B0_b4
 replace B0 := Below.next B0 hb6; replace rb1 := row_next rb1 hb6
 refine l_box f rfl rfl rfl rfl rfl ?_; clear f A; intro b7 W8 eb7 hb9 rb7 A f; dsimp only [Value.cells] at rb7
 have o_b1_b7 : b1 < b7 := by have := row_lt rb1; omega
 have o_b4_b7 : b4 < b7 := by have := row_lt rb4; omega
 have z_B0_b7 := B0.size; rw [eb7] at z_B0_b7
 replace B0 := Below.next B0 hb9; replace rb1 := row_next rb1 hb9; replace rb4 := row_next rb4 hb9
 refine l_do f rfl rfl rfl (y_assign rfl rfl) ?_; clear f A; intro A f
 refine wpList_nil ?_
 refine x_tn ?_
 refine wp_seq ?_
 refine sx_list ?_
 refine l_do f rfl rfl rfl (y_field rfl rfl (fo rfl)) ?_; clear f A; intro A f
 refine l_do f rfl rfl rfl (y_load1 rfl rfl (ag rfl) (rowl (rowq rb1) rfl)) ?_; clear f A; intro A f
 refine l_do f rfl rfl rfl (y_field rfl rfl (fo rfl)) ?_; clear f A; intro A f
 refine l_do f rfl rfl rfl (y_load1 rfl rfl (ag rfl) (rowl (rowq rb7) rfl)) ?_; clear f A; intro A f
 refine l_do f rfl rfl rfl (y_field rfl rfl (fo rfl)) ?_; clear f A; intro A f
 refine l_do f rfl rfl rfl (y_load1 rfl rfl (ag rfl) (rowl (rowq rb7) rfl)) ?_; clear f A; intro A f
 refine l_call f rfl rfl rfl (IsCall.mk' (cap := []) rfl rfl rfl) (pl rfl) (follow_b _ x.wo x.wn x.wc b.t b.o x.words hx.words.len hx.words.reach (hx.words.below B0).at_) ?_
 clear f A; rintro _ W10 ⟨⟨lo, ln, lc, er, rfl, hcase⟩, hb11⟩; refine ⟨_, rfl, ?_⟩; intro A f; replace B0 := Below.next B0 hb11; replace rb1 := row_next rb1 hb11; replace rb4 := row_next rb4 hb11; replace rb7 := row_next rb7 hb11
 have hln : ln * 8 ≤ 140737488351232 := by rcases hcase with ⟨_, h, _⟩ | ⟨_, _, h, _⟩; (omega); (exact h.reach)
 refine l_do f rfl rfl rfl (y_move rfl rfl) ?_; clear f A; intro A f
 refine l_do f rfl rfl rfl (y_ext rfl rfl rfl) ?_; clear f A; intro A f
 refine l_do f rfl rfl rfl (y_ext rfl rfl rfl) ?_; clear f A; intro A f
 refine l_do f rfl rfl rfl (y_assign rfl rfl) ?_; clear f A; intro A f
 refine l_do f rfl rfl rfl (y_assign rfl rfl) ?_; clear f A; intro A f
 refine wpList_nil ?_
 refine x_tn ?_
 refine wp_seq ?_
 refine wp_seq ?_
 refine sx_list ?_
 refine l_do f rfl rfl rfl (y_move rfl rfl) ?_; clear f A; intro A f
 refine l_if _ f rfl rfl rfl (y_neq rfl rfl rfl) ?_ ?_
 ·clear f A; intro c12 A f
  refine l_do f rfl rfl rfl (y_move rfl rfl) ?_; clear f A; intro A f
  refine l_no f rfl rfl rfl ?_; clear f A; intro A f
  refine l_no f rfl rfl rfl ?_; clear f A; intro A f
  refine l_no f rfl rfl rfl ?_; clear f A; intro A f
  refine l_no f rfl rfl rfl ?_; clear f A; intro A f
  refine l_no f rfl rfl rfl ?_; clear f A; intro A f
  refine l_do f rfl rfl rfl (y_pick rfl rfl rfl) ?_; clear f A; intro A f
  refine wpList_nil ?_
  refine x_tn ?_
  refine x_condT f rfl ?_
  refine wp_seq ?_
  refine sx_list ?_
  refine l_do f rfl rfl rfl (y_assign rfl rfl) ?_; clear f A; intro A f
  refine wpList_nil ?_
  refine x_tn ?_
  refine wp_ret ?_
  refine x_tr ?_
  refine x_ret1 f rfl rfl ?_
  refine ⟨retB_false (fun h => ?_), B0⟩
  obtain ⟨h0, l3, h1, h2, h3⟩ := h
  rcases hcase with ⟨_, _, hn⟩ | ⟨l2, he, hL, hO, hfl, hwf⟩
  ·rcases hn with hn | hn
   ·omega
   ·rw [h1] at hn; cases hn
  ·rw [hfl] at h1; cases h1; have := hL.len; omega
 ·clear f A; intro c12 A f
  refine l_do f rfl rfl rfl (y_move rfl rfl) ?_; clear f A; intro A f
  refine l_do f rfl rfl rfl (y_move rfl rfl) ?_; clear f A; intro A f
  refine l_do f rfl rfl rfl (y_len rfl rfl (sl rfl)) ?_; clear f A; intro A f
  refine l_do f rfl rfl rfl (y_field rfl rfl (fo rfl)) ?_; clear f A; intro A f
  refine l_do f rfl rfl rfl (y_load1 rfl rfl (ag rfl) (rowl (rowq rb7) rfl)) ?_; clear f A; intro A f
  refine l_if _ f rfl rfl rfl (y_neq rfl rfl rfl) ?_ ?_
  ·clear f A; intro c13 A f
   refine l_do f rfl rfl rfl (y_pick rfl rfl rfl) ?_; clear f A; intro A f
   refine wpList_nil ?_
   refine x_tn ?_
   refine x_condT f rfl ?_
   refine wp_seq ?_
   refine sx_list ?_
   refine l_do f rfl rfl rfl (y_assign rfl rfl) ?_; clear f A; intro A f
   refine wpList_nil ?_
   refine x_tn ?_
   refine wp_ret ?_
   refine x_tr ?_
   refine x_ret1 f rfl rfl ?_
   refine ⟨retB_false (fun h => ?_), B0⟩
   obtain ⟨h0, l3, h1, h2, h3⟩ := h
   rcases hcase with ⟨_, _, hn⟩ | ⟨l2, he, hL, hO, hfl, hwf⟩
   ·rcases hn with hn | hn
    ·omega
    ·rw [h1] at hn; cases hn
   ·rw [hfl] at h1; cases h1; have := hL.len; omega
  ·clear f A; intro c13 A f
   refine l_do f rfl rfl rfl (y_pick rfl rfl rfl) ?_; clear f A; intro A f
   refine wpList_nil ?_
   refine x_tn ?_
   refine x_condF f rfl ?_
   refine wp_skip ?_
   refine x_tn ?_
   refine wp_seq ?_
   refine sx_list ?_
   rcases hcase with ⟨he, _⟩ | ⟨l2, he, hL, hO, hfl, hwf⟩
   ·exfalso; omega
   have hl2 := hL.len
   refine l_do f rfl rfl rfl (y_move rfl rfl) ?_; clear f A; intro A f
   refine l_do f rfl rfl rfl (y_func rfl rfl) ?_; clear f A; intro A f
   have hcc := iContainsB _ 96 [.pointer (some ⟨b4, 0, none⟩), .pointer (some ⟨b7, 0, none⟩)] (pl rfl) lo ln lc l2 (fun y => ¬ objAt c.c b y) hL (fun i hi W hW => slChainF_any W c b (l2.getD i 0) b4 b7 (row_next rb4 hW) (row_next rb7 hW) (hwf _ (getD_mem (d := (0 : Int)) (by have := hL.len; omega))) hs hp ha)
   refine l_callB _ f rfl rfl rfl (IsCall.mk' (cap := []) rfl rfl rfl) (pl rfl) hcc ?_ ?_
   ·clear f A; intro c14 W16 hb15 A f
    replace B0 := Below.next B0 hb15; replace hL := hL.below hb15; replace rb1 := row_next rb1 hb15; replace rb4 := row_next rb4 hb15; replace rb7 := row_next rb7 hb15
    refine l_do f rfl rfl rfl (y_not rfl rfl) ?_; clear f A; intro A f
    refine l_do f rfl rfl rfl (y_assign rfl rfl) ?_; clear f A; intro A f
    refine wpList_nil ?_
    refine x_tn ?_
    refine wp_ret ?_
    refine x_ret1 f rfl rfl ?_
    refine ⟨retB_false (fun h => ?_), B0⟩
    obtain ⟨h0, l3, h1, h2, h3⟩ := h
    rw [hfl] at h1; cases h1
    obtain ⟨i, hi, hn⟩ := c14
    exact hn (h3 _ (getD_mem (d := (0 : Int)) (by omega)))
   ·clear f A; intro c14 W16 hb15 A f
    replace B0 := Below.next B0 hb15; replace hL := hL.below hb15; replace rb1 := row_next rb1 hb15; replace rb4 := row_next rb4 hb15; replace rb7 := row_next rb7 hb15
    refine l_do f rfl rfl rfl (y_not rfl rfl) ?_; clear f A; intro A f
    refine l_do f rfl rfl rfl (y_assign rfl rfl) ?_; clear f A; intro A f
    refine wpList_nil ?_
    refine x_tn ?_
    refine wp_ret ?_
    refine x_ret1 f rfl rfl ?_
    refine ⟨retB_true ⟨by omega, l2, hfl, by omega, fun y hy => ?_⟩, B0⟩
    obtain ⟨i, hi, rfl⟩ := List.getElem_of_mem hy
    by_cases h : objAt c.c b l2[i]
    ·exact h
    ·exact absurd ⟨i, by omega, by rw [List.getD_eq_getElem?_getD, List.getElem?_eq_getElem hi]; exact h⟩ c14
def HoldsB (F : Nat) (caps : Array Value) (l : List Bk) (g : Bk → Bool) (w : World) : Prop :=
 ∀ (i : Nat), i < l.length → ∀ W : World, Below w.heap.size w W → Calls Try.prog F (#[Value.agg #[.int .i64 (l.getD i .zero).a, .int .i64 (l.getD i .zero).o, .int .i64 (l.getD i .zero).t]] ++ caps) W fun e W' => e = .returned (.bool (g (l.getD i .zero))) ∧ Below W.heap.size W W'
def FoundAt (e : Ending) (l : List Bk) (g : Bk → Bool) : Prop :=
 (∃ k : Nat, k < l.length ∧ e = .returned (.int .i64 (k : Int)) ∧ g (l.getD k .zero) = true ∧ ∀ j, j < k → g (l.getD j .zero) = false) ∨ (e = .returned (.int .i64 (-1)) ∧ ∀ j, j < l.length → g (l.getD j .zero) = false)
theorem bIndex_any (w : World) (F : Nat) (caps : Array Value) (ao : Option Addr) (n cap : Nat) (l : List Bk) (g : Bk → Bool) (h : Blks w ao n l)
    (hcall : ∀ args W, (callFunc F args).run Try.prog W = .ok (.enter F args) W) (hc : HoldsB F caps l g w) :
    Calls Try.prog 95 #[.slice ao n cap, .func (.func F) #[] caps] w fun e w' => FoundAt e l g ∧ Below w.heap.size w w' := by
 have hlen := h.len
 have hrch := h.reach
 go_enter Try.func95, Try.ntmps95
 go_wp2
 go_loopw [8] (fun i wr => ∃ k : Nat, k ≤ n ∧ i = .int .i64 k ∧ Hid (∀ j, j < k → g (l.getD j .zero) = false) ∧ Below w.heap.size w wr) (fun i _ => n - (intOf i).toNat)
 case atStart => exact ⟨0, Nat.zero_le _, rfl, (fun j hj => absurd hj (Nat.not_lt_zero j)), Below.refl _ _⟩
 case round =>
  obtain ⟨k, hk, rfl, hN, hb⟩ := hrel
  by_cases hlt : k < n
  ·obtain ⟨b, o, rfl, c0, c1, c2⟩ := h.at_ k (by omega)
   have hc1 := hc k (by omega) wr hb
   obtain ⟨r, hr⟩ : ∃ r, l.getD k .zero = r := ⟨_, rfl⟩
   have HR : Hid (l.getD k .zero = r) := hr
   rw [hr] at c0 c1 c2 hc1
   clear hr
   obtain ⟨x, y, u⟩ := r
   dsimp only at c0 c1 c2 hc1
   have d0 := keep c0 hb
   have d1 := keep c1 hb
   have d2 := keep c2 hb
   clear c0 c1 c2
   go_wp2_with fail
   refine hc1.mono ?_
   rintro e w1 ⟨rfl, hb1⟩
   have hB := hb.trans (hb1.mono hb.size)
   clear hc1 d0 d1 d2 hc
   cases hg : g ⟨x, y, u⟩ with
   | true =>
    have HT : Hid (g (l.getD k .zero) = true) := by show _ = _; rw [HR.out]; exact hg
    clear hg
    go_wp2
    go_ret
    exact ⟨.inl ⟨k, by omega, rfl, HT.out, hN.out⟩, hB⟩
   | false =>
    have HF : Hid (∀ j, j < k + 1 → g (l.getD j .zero) = false) := fun j hj => by
     by_cases e : j = k
     ·rw [e, HR.out]; exact hg
     ·exact hN.out j (by omega)
    clear hg hN
    go_wp2
    go_roundw
    case rel => exact ⟨k + 1, by omega, by go_num, HF, hB⟩
    case measure => simp [intOf]; omega
  ·have HF : Hid (∀ j, j < l.length → g (l.getD j .zero) = false) := fun j hj => hN.out j (by omega)
   clear hN hc
   go_wp2
   go_ret
   exact ⟨.inr ⟨rfl, HF.out⟩, hb⟩
theorem any_of_found {l : List Bk} {g : Bk → Bool} {k : Nat} (hk : k < l.length) (h : g (l.getD k .zero) = true) : l.any g = true := by
 rw [List.any_eq_true]
 exact ⟨l[k], List.getElem_mem _, by rw [List.getD_eq_getElem?_getD, List.getElem?_eq_getElem hk] at h; exact h⟩
theorem any_of_none {l : List Bk} {g : Bk → Bool} (h : ∀ j, j < l.length → g (l.getD j .zero) = false) : l.any g = false := by
 rw [List.any_eq_false]
 intro x hx
 obtain ⟨i, hi, rfl⟩ := List.getElem_of_mem hx
 have := h i hi
 rw [List.getD_eq_getElem?_getD, List.getElem?_eq_getElem hi] at this
 simp only [Option.getD_some] at this
 simp [this]
theorem bContains_any (w : World) (F : Nat) (caps : Array Value) (ao : Option Addr) (n cap : Nat) (l : List Bk) (g : Bk → Bool) (h : Blks w ao n l)
    (hcall : ∀ args W, (callFunc F args).run Try.prog W = .ok (.enter F args) W) (hc : HoldsB F caps l g w) :
    Calls Try.prog 83 #[.slice ao n cap, .func (.func F) #[] caps] w fun e w' => e = .returned (.bool (l.any g)) ∧ Below w.heap.size w w' := by
 go_enter Try.func83, Try.ntmps83
 go_wp2_with fail
 go_at_call 95
 refine (bIndex_any w F caps ao n cap l g h hcall hc).mono ?_
 rintro e w1 ⟨hf, hb⟩
 rcases hf with ⟨k, hk, rfl, hg, _⟩ | ⟨rfl, hg⟩
 ·have HF : Hid (l.any g = true) := any_of_found hk hg
  clear hg hc
  go_wp2
  go_ret
  exact ⟨ret_bool HF.out.symm, hb⟩
 ·have HF : Hid (l.any g = false) := any_of_none hg
  clear hg hc
  go_wp2
  go_ret
  exact ⟨ret_bool HF.out.symm, hb⟩
theorem bContainsB (w : World) (F : Nat) (cs : List Value) (hp : Plain Try.prog F) (ao : Option Addr) (n cap : Nat) (l : List Bk) (g : Bk → Prop) (h : Blks w ao n l) (hc : ∀ i, i < n → ∀ W : World, Below w.heap.size w W → Calls Try.prog F (List.toArray ([.agg #[.int .i64 (l.getD i .zero).a, .int .i64 (l.getD i .zero).o, .int .i64 (l.getD i .zero).t]] ++ cs)) W fun e W' => RetB e (g (l.getD i .zero)) ∧ Below W.heap.size W W') :
    Calls Try.prog 83 #[.slice ao n cap, .func (.func F) #[] cs.toArray] w fun e w' => RetB e (∃ k, k < n ∧ g (l.getD k .zero)) ∧ Below w.heap.size w w' := by
 have inst := fun y => Classical.propDecidable (g y)
 have hc' : HoldsB F cs.toArray l (fun y => decide (g y)) w := by
  intro i hi W hW
  have e0 : (#[Value.agg #[.int .i64 (l.getD i .zero).a, .int .i64 (l.getD i .zero).o, .int .i64 (l.getD i .zero).t]] ++ cs.toArray) = List.toArray ([.agg #[.int .i64 (l.getD i .zero).a, .int .i64 (l.getD i .zero).o, .int .i64 (l.getD i .zero).t]] ++ cs) := by simp
  rw [e0]
  refine (hc i (by have := h.len; omega) W hW).mono fun e W' h1 => ?_
  obtain ⟨⟨r, rfl, hr⟩, hb⟩ := h1
  refine ⟨?_, hb⟩
  have : r = decide (g (l.getD i .zero)) := by
   cases r with
   | true => rw [decide_eq_true (hr.1 rfl)]
   | false => rw [decide_eq_false (fun h => by cases hr.2 h)]
  rw [this]
 refine (bContains_any w F cs.toArray ao n cap l (fun y => decide (g y)) h (fun args W => hp args W) hc').mono fun e w' h1 => ?_
 obtain ⟨rfl, hb⟩ := h1
 refine ⟨⟨_, rfl, ?_⟩, hb⟩
 have hl := h.len
 rw [List.any_eq_true]
 constructor
 ·rintro ⟨y, hy, hd⟩
  obtain ⟨i, hi, rfl⟩ := List.getElem_of_mem hy
  exact ⟨i, by omega, by rw [List.getD_eq_getElem?_getD, List.getElem?_eq_getElem hi]; exact of_decide_eq_true hd⟩
 ·rintro ⟨k, hk, hg⟩
  exact ⟨_, getD_mem (d := Bk.zero) (show k < l.length by omega), decide_eq_true hg⟩
def SlabOk (words : List Int) (h : Hp) (c : Ch) (k : Nat) : Prop := (0 < k → (c.slabs.getD (k - 1) .zero).a < (c.slabs.getD k .zero).a) ∧ IsLive h c (c.slabs.getD k .zero) ∧ ChainOk words c (c.slabs.getD k .zero)
theorem isLive_of {x : Hx} {c : Ch} {k n : Nat} {a o t : Int} (h : c.slabs.getD k .zero = ⟨a, o, t⟩) (hl : x.live.length = n) (hc : ∃ j, j < n ∧ (x.live.getD j .zero).a = a ∧ (x.live.getD j .zero).o = c.order) : IsLive x.hp c (c.slabs.getD k .zero) := by
 obtain ⟨j, hj, h1, h2⟩ := hc
 refine ⟨_, getD_mem (d := Bk.zero) (l := x.live) (show j < _ by omega), ?_, h2⟩
 rw [h]; exact h1
theorem isLive_to {x : Hx} {c : Ch} {k n : Nat} {a o t : Int} (h : c.slabs.getD k .zero = ⟨a, o, t⟩) (hl : x.live.length = n) (hc : IsLive x.hp c (c.slabs.getD k .zero)) : ∃ j, j < n ∧ (x.live.getD j .zero).a = a ∧ (x.live.getD j .zero).o = c.order := by
 obtain ⟨v, hv, h1, h2⟩ := hc
 obtain ⟨i, hi, rfl⟩ := List.getElem_of_mem hv
 have e : x.live.getD i .zero = x.hp.live[i] := by
  show x.live.getD i .zero = x.live[i]'hi
  rw [List.getD_eq_getElem?_getD, List.getElem?_eq_getElem (show i < x.live.length from hi)]; rfl
 have hi2 : i < x.live.length := hi
 refine ⟨i, by omega, ?_, by rw [e]; exact h2⟩
 rw [e, h1, h]
theorem isLive_at {x : Hx} {c : Ch} {b : Bk} (hm : HMay x.hp) (h : IsLive x.hp c b) : 0 ≤ b.a ∧ b.a < 256 := by
 obtain ⟨v, hv, h1, -⟩ := h
 have hk : LvOk v := by
  obtain ⟨i, hi, rfl⟩ := List.getElem_of_mem hv
  have := hm.lv.ok i hi
  rwa [List.getD_eq_getElem?_getD, List.getElem?_eq_getElem hi] at this
 have := hk.inP
 have h2 := pw_pos v.o
 have h3 := this.2
 omega
theorem slSlabsF_any (w : World) (c : Cc) (b v : Bk) (p q : Nat) (rp : w.heap[p]? = some (.cells #[.slice c.no c.nn c.nc, .int .i64 c.c.size, .int .i64 c.c.per, .int .i64 c.c.order, .slice c.so c.sn c.sc, .slice c.ao c.an c.ac] 45 (0, 0))) (rq : w.heap[q]? = some (.cells #[.int .i64 b.a, .int .i64 b.o, .int .i64 b.t] 49 (0, 0))) :
    Calls Try.prog 82 #[.agg #[.int .i64 v.a, .int .i64 v.o, .int .i64 v.t], .pointer (some ⟨q, 0, none⟩), .pointer (some ⟨p, 0, none⟩)] w fun e w' => RetB e (v.a = b.a ∧ v.o = c.c.order) ∧ Below w.heap.size w w' := by
 have B0 := Below.refl w.heap.size w
 refine sx_enter (args := [_, _, _]) 17 Try.func82 rfl rfl rfl ?_
 intro A f
 refine wp_seq ?_
 refine sx_list ?_
 refine l_box f rfl rfl rfl rfl rfl ?_; clear f A; intro b1 W2 eb1 hb3 rb1 A f; dsimp only [Value.cells] at rb1
 have o_p_b1 : p < b1 := by have := row_lt rp; omega
 have o_q_b1 : q < b1 := by have := row_lt rq; omega
 have z_B0_b1 := B0.size; rw [eb1] at z_B0_b1
 replace B0 := Below.next B0 hb3; replace rp := row_next rp hb3; replace rq := row_next rq hb3
 refine l_do f rfl rfl rfl (y_assign rfl rfl) ?_; clear f A; intro A f
 refine wpList_nil ?_
 refine x_tn ?_
 refine wp_seq ?_
 refine sx_list ?_
 refine l_do f rfl rfl rfl (y_field rfl rfl (fo rfl)) ?_; clear f A; intro A f
 refine l_do f rfl rfl rfl (y_load1 rfl rfl (ag rfl) (rowl (rowq rb1) rfl)) ?_; clear f A; intro A f
 refine l_do f rfl rfl rfl (y_field rfl rfl (fo rfl)) ?_; clear f A; intro A f
 refine l_do f rfl rfl rfl (y_load1 rfl rfl (ag rfl) (rowl (rowq rq) rfl)) ?_; clear f A; intro A f
 refine l_if _ f rfl rfl rfl (y_eql rfl rfl rfl) ?_ ?_
 ·clear f A; intro c4 A f
  refine l_do f rfl rfl rfl (y_move rfl rfl) ?_; clear f A; intro A f
  refine l_do f rfl rfl rfl (y_field rfl rfl (fo rfl)) ?_; clear f A; intro A f
  refine l_do f rfl rfl rfl (y_load1 rfl rfl (ag rfl) (rowl (rowq rb1) rfl)) ?_; clear f A; intro A f
  refine l_do f rfl rfl rfl (y_field rfl rfl (fo rfl)) ?_; clear f A; intro A f
  refine l_do f rfl rfl rfl (y_load1 rfl rfl (ag rfl) (rowl (rowq rp) rfl)) ?_; clear f A; intro A f
  refine l_if _ f rfl rfl rfl (y_eql rfl rfl rfl) ?_ ?_
  ·clear f A; intro c5 A f
   refine l_do f rfl rfl rfl (y_pick rfl rfl rfl) ?_; clear f A; intro A f
   refine l_do f rfl rfl rfl (y_assign rfl rfl) ?_; clear f A; intro A f
   refine wpList_nil ?_
   refine x_tn ?_
   refine wp_ret ?_
   refine x_ret1 f rfl rfl ?_
   exact ⟨retB_true ⟨by omega, by omega⟩, B0⟩
  ·clear f A; intro c5 A f
   refine l_do f rfl rfl rfl (y_pick rfl rfl rfl) ?_; clear f A; intro A f
   refine l_do f rfl rfl rfl (y_assign rfl rfl) ?_; clear f A; intro A f
   refine wpList_nil ?_
   refine x_tn ?_
   refine wp_ret ?_
   refine x_ret1 f rfl rfl ?_
   exact ⟨retB_false (fun h => by obtain ⟨h1, h2⟩ := h; omega), B0⟩
 ·clear f A; intro c4 A f
  refine l_do f rfl rfl rfl (y_move rfl rfl) ?_; clear f A; intro A f
  refine l_no f rfl rfl rfl ?_; clear f A; intro A f
  refine l_no f rfl rfl rfl ?_; clear f A; intro A f
  refine l_no f rfl rfl rfl ?_; clear f A; intro A f
  refine l_no f rfl rfl rfl ?_; clear f A; intro A f
  refine l_no f rfl rfl rfl ?_; clear f A; intro A f
  refine l_do f rfl rfl rfl (y_pick rfl rfl rfl) ?_; clear f A; intro A f
  refine l_do f rfl rfl rfl (y_assign rfl rfl) ?_; clear f A; intro A f
  refine wpList_nil ?_
  refine x_tn ?_
  refine wp_ret ?_
  refine x_ret1 f rfl rfl ?_
  exact ⟨retB_false (fun h => by obtain ⟨h1, h2⟩ := h; omega), B0⟩
theorem slSlabsMay_any (w : World) (x : Sy) (c : Cc) (hx : x.At w) (hc : c.At w) (hm : HMay x.h.hp) (hs : 1 ≤ c.c.size ∧ c.c.size ≤ 64) (hp : c.c.per = layN c.c.size) :
    Calls Try.prog 63 #[.agg #[.slice x.wo x.wn x.wc, .slice x.h.zo x.h.zn x.h.zc, .slice x.h.mo x.h.mn x.h.mc, .int .i64 x.h.cpus, .slice x.h.lo x.h.ln x.h.lc, .slice x.h.vo x.h.vn x.h.vc, .slice x.co x.cn x.cc], .agg #[.slice c.no c.nn c.nc, .int .i64 c.c.size, .int .i64 c.c.per, .int .i64 c.c.order, .slice c.so c.sn c.sc, .slice c.ao c.an c.ac]] w fun e w' => RetB e (SlabsMay x.words x.h.hp c.c) ∧ Below w.heap.size w w' := by
 have B0 := Below.refl w.heap.size w
 refine sx_enter (args := [_, _]) 45 Try.func63 rfl rfl rfl ?_
 intro A f
 refine wp_seq ?_
 refine sx_list ?_
 refine l_box f rfl rfl rfl rfl rfl ?_; clear f A; intro b1 W2 eb1 hb3 rb1 A f; dsimp only [Value.cells] at rb1
 have z_B0_b1 := B0.size; rw [eb1] at z_B0_b1
 replace B0 := Below.next B0 hb3
 refine l_box f rfl rfl rfl rfl rfl ?_; clear f A; intro b4 W5 eb4 hb6 rb4 A f; dsimp only [Value.cells] at rb4
 have o_b1_b4 : b1 < b4 := by have := row_lt rb1; omega
 have z_B0_b4 := B0.size; rw [eb4] at z_B0_b4
 replace B0 := Below.next B0 hb6; replace rb1 := row_next rb1 hb6
 refine l_do f rfl rfl rfl (y_assign rfl rfl) ?_; clear f A; intro A f
 refine wpList_nil ?_
 refine x_tn ?_
 refine wp_seq ?_
 refine wp_seq ?_
 refine sx_list ?_
 refine l_do f rfl rfl rfl (y_field rfl rfl (fo rfl)) ?_; clear f A; intro A f
 refine l_do f rfl rfl rfl (y_load1 rfl rfl (ag rfl) (rowl (rowq rb4) rfl)) ?_; clear f A; intro A f
 refine l_do f rfl rfl rfl (y_len rfl rfl (sl rfl)) ?_; clear f A; intro A f
 refine l_do f rfl rfl rfl (y_move rfl rfl) ?_; clear f A; intro A f
 refine wpList_nil ?_
 refine x_tn ?_
 refine wp_block ?_
 have hreach := hc.slabs.reach
 refine x_loop (fun n A W => ∃ k : Nat, n = c.sn - k ∧ k ≤ c.sn ∧ Fr A 45 [(2, .pointer (some ⟨b1, 0, none⟩)), (3, .pointer (some ⟨b4, 0, none⟩)), (9, .slice c.so c.sn c.sc), (10, .int .i64 (c.sn : Nat)), (11, .int .i64 (k : Nat))] ∧ Below w.heap.size w W ∧ W.heap[b1]? = some (.cells #[.slice x.wo x.wn x.wc, .slice x.h.zo x.h.zn x.h.zc, .slice x.h.mo x.h.mn x.h.mc, .int .i64 x.h.cpus, .slice x.h.lo x.h.ln x.h.lc, .slice x.h.vo x.h.vn x.h.vc, .slice x.co x.cn x.cc] 30 (0, 0)) ∧ W.heap[b4]? = some (.cells #[.slice c.no c.nn c.nc, .int .i64 c.c.size, .int .i64 c.c.per, .int .i64 c.c.order, .slice c.so c.sn c.sc, .slice c.ao c.an c.ac] 45 (0, 0)) ∧ ∀ i, i < k → SlabOk x.words x.h.hp c.c i) (n0 := c.sn) (⟨0, rfl, Nat.zero_le _, f.sub ⟨rfl, rfl, rfl, rfl, rfl, trivial⟩, B0, rb1, rb4, fun i hi => absurd hi (Nat.not_lt_zero i)⟩) ?_
 clear f A
 clear B0 rb1 rb4
 rintro n A W7 ⟨k, hn, hk, f, B0, rb1, rb4, hd⟩
 refine wp_seq ?_
 refine sx_list ?_
 refine l_if _ f rfl rfl rfl (y_lss rfl rfl rfl) ?_ ?_
 ·clear f A; intro c8 A f
  refine wpList_nil ?_
  refine x_tn ?_
  refine wp_seq ?_
  refine x_condT f rfl ?_
  refine wp_skip ?_
  refine x_tn ?_
  refine wp_seq ?_
  refine wp_block ?_
  refine wp_seq ?_
  refine sx_list ?_
  refine l_do f rfl rfl rfl (y_move rfl rfl) ?_; clear f A; intro A f
  obtain ⟨ge, oe, bae, boe, bte, hae, c0e, c1e, c2e, hXe⟩ := hc.slabs.at_.at (k) (by have := hc.slabs.len; omega)
  replace c0e := St.of c0e; replace c1e := St.of c1e; replace c2e := St.of c2e
  refine l_do f rfl rfl rfl (y_index rfl rfl (by first | rfl | assumption) rfl (es rfl) (by omega)) ?_; clear f A; intro A f
  refine l_do f rfl rfl rfl (y_loadN (vs := [_, _, _]) rfl rfl (ag rfl) rfl ⟨(by first | assumption | exact St.q c0e B0 | exact St.q c1e B0 | exact St.q c2e B0), (by first | assumption | exact St.q c0e B0 | exact St.q c1e B0 | exact St.q c2e B0), (by first | assumption | exact St.q c0e B0 | exact St.q c1e B0 | exact St.q c2e B0), trivial⟩) ?_; clear f A; intro A f
  refine l_alloc (z := .agg #[.int .i64 0, .int .i64 0, .int .i64 0]) f rfl rfl rfl rfl (by kernel_rfl) ?_; clear f A; intro b9 W10 eb9 hb11 rb9 A f; dsimp only [Value.cells] at rb9
  have o_b1_b9 : b1 < b9 := by have := row_lt rb1; omega
  have o_b4_b9 : b4 < b9 := by have := row_lt rb4; omega
  have z_B0_b9 := B0.size; rw [eb9] at z_B0_b9
  replace B0 := Below.next B0 hb11; replace rb1 := row_next rb1 hb11; replace rb4 := row_next rb4 hb11
  refine l_do f rfl rfl rfl (y_assign rfl rfl) ?_; clear f A; intro A f
  refine l_store f rfl rfl rfl rfl rfl rb9 (sz rfl) rfl (Nat.le_of_ble_eq_true rfl) rfl ?_
  clear rb9; intro W12 hb13 rb9; dsimp only [setL, over, Value.cells] at rb9; replace B0 := Below.thenBut B0 hb13 (by omega); replace rb1 := But.row hb13 rb1 (by omega); replace rb4 := But.row hb13 rb4 (by omega)
  refine wpList_nil ?_
  refine x_tn ?_
  refine wp_seq ?_
  refine wp_seq ?_
  refine sx_quiet (by kernel_rfl) (by kernel_rfl) ?_
  refine q_do f rfl rfl rfl (y_move rfl rfl) ?_; clear f A; intro A f
  refine q_if _ f rfl rfl rfl (y_gtr rfl rfl rfl) ?_ ?_
  ·clear f A; intro c14 A f
   refine q_do f rfl rfl rfl (y_move rfl rfl) ?_; clear f A; intro A f
   refine q_do f rfl rfl rfl (y_field rfl rfl (fo rfl)) ?_; clear f A; intro A f
   refine q_do f rfl rfl rfl (y_load1 rfl rfl (ag rfl) (rowl (rowq rb4) rfl)) ?_; clear f A; intro A f
   refine q_do f rfl rfl rfl (y_move rfl rfl) ?_; clear f A; intro A f
   refine q_do f rfl rfl rfl (y_sub (c := ((k - 1 : Nat) : Int)) rfl rfl rfl (by omega) (by omega)) ?_; clear f A; intro A f
   obtain ⟨gp, op, bap, bop, btp, hap, c0p, c1p, c2p, hXp⟩ := hc.slabs.at_.at (k - 1) (by have := hc.slabs.len; omega)
   replace c0p := St.of c0p; replace c1p := St.of c1p; replace c2p := St.of c2p
   refine q_do f rfl rfl rfl (y_index rfl rfl (by first | rfl | assumption) rfl (es rfl) (by omega)) ?_; clear f A; intro A f
   refine q_do f rfl rfl rfl (y_field rfl rfl (fo rfl)) ?_; clear f A; intro A f
   refine q_do f rfl rfl rfl (y_load1 rfl rfl (ag rfl) (by first | assumption | exact St.q c0e B0 | exact St.q c1e B0 | exact St.q c2e B0 | exact St.q c0p B0 | exact St.q c1p B0 | exact St.q c2p B0)) ?_; clear f A; intro A f
   refine q_do f rfl rfl rfl (y_field rfl rfl (fo rfl)) ?_; clear f A; intro A f
   refine q_do f rfl rfl rfl (y_load1 rfl rfl (ag rfl) (rowl (rowq rb9) rfl)) ?_; clear f A; intro A f
   refine q_if _ f rfl rfl rfl (y_geq rfl rfl rfl) ?_ ?_
   ·clear f A; intro c15 A f
    refine q_do f rfl rfl rfl (y_pick rfl rfl rfl) ?_; clear f A; intro A f
    refine wpQuiet_nil ?_; intro W17 hb16; replace B0 := Below.next B0 hb16; replace rb1 := row_next rb1 hb16; replace rb4 := row_next rb4 hb16; replace rb9 := row_next rb9 hb16
    refine x_tn ?_
    refine x_condT f rfl ?_
    refine wp_seq ?_
    refine sx_list ?_
    refine l_do f rfl rfl rfl (y_assign rfl rfl) ?_; clear f A; intro A f
    refine wpList_nil ?_
    refine x_tn ?_
    refine wp_ret ?_
    refine x_tr ?_
    refine x_br ?_
    refine x_tr ?_
    refine x_tr ?_
    refine x_br ?_
    refine x_tr ?_
    refine x_ret1 f rfl rfl ?_
    refine ⟨retB_false (fun h => ?_), B0⟩
    have h1 := (h k (by have := hc.slabs.len; omega)).1 (by omega)
    have h2 := hXp.out; have h3 := hXe.out; simp only [h2, h3] at h1; omega
   ·clear f A; intro c15 A f
    refine q_do f rfl rfl rfl (y_pick rfl rfl rfl) ?_; clear f A; intro A f
    refine wpQuiet_nil ?_; intro W19 hb18; replace B0 := Below.next B0 hb18; replace rb1 := row_next rb1 hb18; replace rb4 := row_next rb4 hb18; replace rb9 := row_next rb9 hb18
    refine x_tn ?_
    refine x_condF f rfl ?_
    refine wp_skip ?_
    refine x_tn ?_
    refine wp_seq ?_
    refine sx_list ?_
    refine l_do f rfl rfl rfl (y_func rfl rfl) ?_; clear f A; intro A f
    refine l_do f rfl rfl rfl (y_assign rfl rfl) ?_; clear f A; intro A f
    refine wpList_nil ?_
    refine x_tn ?_
    refine wp_seq ?_
    refine sx_list ?_
    refine l_do f rfl rfl rfl (y_field rfl rfl (fo rfl)) ?_; clear f A; intro A f
    refine l_do f rfl rfl rfl (y_field rfl rfl (fo rfl)) ?_; clear f A; intro A f
    refine l_do f rfl rfl rfl (y_load1 rfl rfl (ag rfl) (rowl (rowq rb1) rfl)) ?_; clear f A; intro A f
    refine l_do f rfl rfl rfl (y_move rfl rfl) ?_; clear f A; intro A f
    have hcc := bContainsB _ 82 [.pointer (some ⟨b9, 0, none⟩), .pointer (some ⟨b4, 0, none⟩)] (pl rfl) x.h.vo x.h.vn x.h.vc x.h.live (fun v => v.a = bae ∧ v.o = c.c.order) (hx.heap.live.below B0) (fun i hi W hW => slSlabsF_any W c ⟨bae, boe, bte⟩ (x.h.live.getD i .zero) b4 b9 (row_next rb4 hW) (row_next rb9 hW))
    refine l_callB _ f rfl rfl rfl (IsCall.mk' (cap := []) rfl rfl rfl) (pl rfl) hcc ?_ ?_
    ·clear f A; intro c20 W22 hb21 A f
     replace B0 := Below.next B0 hb21; replace rb1 := row_next rb1 hb21; replace rb4 := row_next rb4 hb21; replace rb9 := row_next rb9 hb21
     have hlive := isLive_of hXe.out hx.heap.live.len c20
     have hav := isLive_at hm hlive
     refine l_do f rfl rfl rfl (y_not rfl rfl) ?_; clear f A; intro A f
     refine l_do f rfl rfl rfl (y_move rfl rfl) ?_; clear f A; intro A f
     refine l_do f rfl rfl rfl (y_loadN (vs := [_, _, _, _, _, _, _]) rfl rfl (ag rfl) rfl (rowls (rowq rb1) _ _ ⟨rfl, rfl, rfl, rfl, rfl, rfl, rfl, trivial⟩)) ?_; clear f A; intro A f
     refine l_do f rfl rfl rfl (y_loadN (vs := [_, _, _, _, _, _]) rfl rfl (ag rfl) rfl (rowls (rowq rb4) _ _ ⟨rfl, rfl, rfl, rfl, rfl, rfl, trivial⟩)) ?_; clear f A; intro A f
     refine l_do f rfl rfl rfl (y_loadN (vs := [_, _, _]) rfl rfl (ag rfl) rfl (rowls (rowq rb9) _ _ ⟨rfl, rfl, rfl, trivial⟩)) ?_; clear f A; intro A f
     have hch := slChainMay_any _ x c (c.c.slabs.getD k .zero) (hx.below B0) hs hp hav
     rw [show ∀ (W : World) (Q : Ending → World → Prop) a b, Calls Try.prog 84 #[a, b, .agg #[.int .i64 (c.c.slabs.getD k .zero).a, .int .i64 (c.c.slabs.getD k .zero).o, .int .i64 (c.c.slabs.getD k .zero).t]] W Q = Calls Try.prog 84 #[a, b, .agg #[.int .i64 bae, .int .i64 boe, .int .i64 bte]] W Q from fun _ _ _ _ => by rw [hXe.out]] at hch
     refine l_callB _ f rfl rfl rfl (IsCall.mk' (cap := []) rfl rfl rfl) (pl rfl) (hch) ?_ ?_
     ·clear f A; intro c23 W25 hb24 A f
      replace B0 := Below.next B0 hb24; replace rb1 := row_next rb1 hb24; replace rb4 := row_next rb4 hb24; replace rb9 := row_next rb9 hb24
      refine l_do f rfl rfl rfl (y_not rfl rfl) ?_; clear f A; intro A f
      refine l_do f rfl rfl rfl (y_pick rfl rfl rfl) ?_; clear f A; intro A f
      refine wpList_nil ?_
      refine x_tn ?_
      refine x_condF f rfl ?_
      refine wp_skip ?_
      refine x_bn ?_
      refine x_tn ?_
      refine sx_list ?_
      refine l_do f rfl rfl rfl (y_add rfl rfl rfl rfl (by omega)) ?_; clear f A; intro A f
      refine l_do f rfl rfl rfl (y_move rfl rfl) ?_; clear f A; intro A f
      refine wpList_nil ?_
      refine x_tn ?_
      refine ⟨c.sn - (k + 1), by omega, k + 1, rfl, by omega, f.sub ⟨rfl, rfl, rfl, rfl, rfl, trivial⟩, B0, rb1, rb4, fun i hi => ?_⟩
      by_cases e : i = k
      ·subst e; exact ⟨fun h => by have h2 := hXp.out; have h3 := hXe.out; simp only [h2, h3]; omega, hlive, c23⟩
      ·exact hd i (by omega)
     ·clear f A; intro c23 W25 hb24 A f
      replace B0 := Below.next B0 hb24; replace rb1 := row_next rb1 hb24; replace rb4 := row_next rb4 hb24; replace rb9 := row_next rb9 hb24
      refine l_do f rfl rfl rfl (y_not rfl rfl) ?_; clear f A; intro A f
      refine l_do f rfl rfl rfl (y_pick rfl rfl rfl) ?_; clear f A; intro A f
      refine wpList_nil ?_
      refine x_tn ?_
      refine x_condT f rfl ?_
      refine wp_seq ?_
      refine sx_list ?_
      refine l_do f rfl rfl rfl (y_assign rfl rfl) ?_; clear f A; intro A f
      refine wpList_nil ?_
      refine x_tn ?_
      refine wp_ret ?_
      refine x_br ?_
      refine x_tr ?_
      refine x_tr ?_
      refine x_br ?_
      refine x_tr ?_
      refine x_ret1 f rfl rfl ?_
      exact ⟨retB_false (fun h => c23 (h k (by have := hc.slabs.len; omega)).2.2), B0⟩
    ·clear f A; intro c20 W22 hb21 A f
     replace B0 := Below.next B0 hb21; replace rb1 := row_next rb1 hb21; replace rb4 := row_next rb4 hb21; replace rb9 := row_next rb9 hb21
     refine l_do f rfl rfl rfl (y_not rfl rfl) ?_; clear f A; intro A f
     refine l_do f rfl rfl rfl (y_move rfl rfl) ?_; clear f A; intro A f
     refine l_no f rfl rfl rfl ?_; clear f A; intro A f
     refine l_no f rfl rfl rfl ?_; clear f A; intro A f
     refine l_no f rfl rfl rfl ?_; clear f A; intro A f
     refine l_no f rfl rfl rfl ?_; clear f A; intro A f
     refine l_no f rfl rfl rfl ?_; clear f A; intro A f
     refine l_do f rfl rfl rfl (y_pick rfl rfl rfl) ?_; clear f A; intro A f
     refine wpList_nil ?_
     refine x_tn ?_
     refine x_condT f rfl ?_
     refine wp_seq ?_
     refine sx_list ?_
     refine l_do f rfl rfl rfl (y_assign rfl rfl) ?_; clear f A; intro A f
     refine wpList_nil ?_
     refine x_tn ?_
     refine wp_ret ?_
     refine x_br ?_
     refine x_tr ?_
     refine x_tr ?_
     refine x_br ?_
     refine x_tr ?_
     refine x_ret1 f rfl rfl ?_
     refine ⟨retB_false (fun h => ?_), B0⟩
     have h1 := (h k (by have := hc.slabs.len; omega)).2.1
     exact c20 (isLive_to hXe.out hx.heap.live.len h1)
  ·clear f A; intro c14 A f
   refine q_do f rfl rfl rfl (y_move rfl rfl) ?_; clear f A; intro A f
   refine q_no f rfl rfl rfl ?_; clear f A; intro A f
   refine q_no f rfl rfl rfl ?_; clear f A; intro A f
   refine q_no f rfl rfl rfl ?_; clear f A; intro A f
   refine q_no f rfl rfl rfl ?_; clear f A; intro A f
   refine q_no f rfl rfl rfl ?_; clear f A; intro A f
   refine q_no f rfl rfl rfl ?_; clear f A; intro A f
   refine q_no f rfl rfl rfl ?_; clear f A; intro A f
   refine q_no f rfl rfl rfl ?_; clear f A; intro A f
   refine q_no f rfl rfl rfl ?_; clear f A; intro A f
   refine q_no f rfl rfl rfl ?_; clear f A; intro A f
   refine q_do f rfl rfl rfl (y_pick rfl rfl rfl) ?_; clear f A; intro A f
   refine wpQuiet_nil ?_; intro W27 hb26; replace B0 := Below.next B0 hb26; replace rb1 := row_next rb1 hb26; replace rb4 := row_next rb4 hb26; replace rb9 := row_next rb9 hb26
   refine x_tn ?_
   refine x_condF f rfl ?_
   refine wp_skip ?_
   refine x_tn ?_
   refine wp_seq ?_
   refine sx_list ?_
   refine l_do f rfl rfl rfl (y_func rfl rfl) ?_; clear f A; intro A f
   refine l_do f rfl rfl rfl (y_assign rfl rfl) ?_; clear f A; intro A f
   refine wpList_nil ?_
   refine x_tn ?_
   refine wp_seq ?_
   refine sx_list ?_
   refine l_do f rfl rfl rfl (y_field rfl rfl (fo rfl)) ?_; clear f A; intro A f
   refine l_do f rfl rfl rfl (y_field rfl rfl (fo rfl)) ?_; clear f A; intro A f
   refine l_do f rfl rfl rfl (y_load1 rfl rfl (ag rfl) (rowl (rowq rb1) rfl)) ?_; clear f A; intro A f
   refine l_do f rfl rfl rfl (y_move rfl rfl) ?_; clear f A; intro A f
   have hcc := bContainsB _ 82 [.pointer (some ⟨b9, 0, none⟩), .pointer (some ⟨b4, 0, none⟩)] (pl rfl) x.h.vo x.h.vn x.h.vc x.h.live (fun v => v.a = bae ∧ v.o = c.c.order) (hx.heap.live.below B0) (fun i hi W hW => slSlabsF_any W c ⟨bae, boe, bte⟩ (x.h.live.getD i .zero) b4 b9 (row_next rb4 hW) (row_next rb9 hW))
   refine l_callB _ f rfl rfl rfl (IsCall.mk' (cap := []) rfl rfl rfl) (pl rfl) hcc ?_ ?_
   ·clear f A; intro c28 W30 hb29 A f
    replace B0 := Below.next B0 hb29; replace rb1 := row_next rb1 hb29; replace rb4 := row_next rb4 hb29; replace rb9 := row_next rb9 hb29
    have hlive := isLive_of hXe.out hx.heap.live.len c28
    have hav := isLive_at hm hlive
    refine l_do f rfl rfl rfl (y_not rfl rfl) ?_; clear f A; intro A f
    refine l_do f rfl rfl rfl (y_move rfl rfl) ?_; clear f A; intro A f
    refine l_do f rfl rfl rfl (y_loadN (vs := [_, _, _, _, _, _, _]) rfl rfl (ag rfl) rfl (rowls (rowq rb1) _ _ ⟨rfl, rfl, rfl, rfl, rfl, rfl, rfl, trivial⟩)) ?_; clear f A; intro A f
    refine l_do f rfl rfl rfl (y_loadN (vs := [_, _, _, _, _, _]) rfl rfl (ag rfl) rfl (rowls (rowq rb4) _ _ ⟨rfl, rfl, rfl, rfl, rfl, rfl, trivial⟩)) ?_; clear f A; intro A f
    refine l_do f rfl rfl rfl (y_loadN (vs := [_, _, _]) rfl rfl (ag rfl) rfl (rowls (rowq rb9) _ _ ⟨rfl, rfl, rfl, trivial⟩)) ?_; clear f A; intro A f
    have hch := slChainMay_any _ x c (c.c.slabs.getD k .zero) (hx.below B0) hs hp hav
    rw [show ∀ (W : World) (Q : Ending → World → Prop) a b, Calls Try.prog 84 #[a, b, .agg #[.int .i64 (c.c.slabs.getD k .zero).a, .int .i64 (c.c.slabs.getD k .zero).o, .int .i64 (c.c.slabs.getD k .zero).t]] W Q = Calls Try.prog 84 #[a, b, .agg #[.int .i64 bae, .int .i64 boe, .int .i64 bte]] W Q from fun _ _ _ _ => by rw [hXe.out]] at hch
    refine l_callB _ f rfl rfl rfl (IsCall.mk' (cap := []) rfl rfl rfl) (pl rfl) (hch) ?_ ?_
    ·clear f A; intro c31 W33 hb32 A f
     replace B0 := Below.next B0 hb32; replace rb1 := row_next rb1 hb32; replace rb4 := row_next rb4 hb32; replace rb9 := row_next rb9 hb32
     refine l_do f rfl rfl rfl (y_not rfl rfl) ?_; clear f A; intro A f
     refine l_do f rfl rfl rfl (y_pick rfl rfl rfl) ?_; clear f A; intro A f
     refine wpList_nil ?_
     refine x_tn ?_
     refine x_condF f rfl ?_
     refine wp_skip ?_
     refine x_bn ?_
     refine x_tn ?_
     refine sx_list ?_
     refine l_do f rfl rfl rfl (y_add rfl rfl rfl rfl (by omega)) ?_; clear f A; intro A f
     refine l_do f rfl rfl rfl (y_move rfl rfl) ?_; clear f A; intro A f
     refine wpList_nil ?_
     refine x_tn ?_
     refine ⟨c.sn - (k + 1), by omega, k + 1, rfl, by omega, f.sub ⟨rfl, rfl, rfl, rfl, rfl, trivial⟩, B0, rb1, rb4, fun i hi => ?_⟩
     by_cases e : i = k
     ·subst e; exact ⟨fun h => by omega, hlive, c31⟩
     ·exact hd i (by omega)
    ·clear f A; intro c31 W33 hb32 A f
     replace B0 := Below.next B0 hb32; replace rb1 := row_next rb1 hb32; replace rb4 := row_next rb4 hb32; replace rb9 := row_next rb9 hb32
     refine l_do f rfl rfl rfl (y_not rfl rfl) ?_; clear f A; intro A f
     refine l_do f rfl rfl rfl (y_pick rfl rfl rfl) ?_; clear f A; intro A f
     refine wpList_nil ?_
     refine x_tn ?_
     refine x_condT f rfl ?_
     refine wp_seq ?_
     refine sx_list ?_
     refine l_do f rfl rfl rfl (y_assign rfl rfl) ?_; clear f A; intro A f
     refine wpList_nil ?_
     refine x_tn ?_
     refine wp_ret ?_
     refine x_br ?_
     refine x_tr ?_
     refine x_tr ?_
     refine x_br ?_
     refine x_tr ?_
     refine x_ret1 f rfl rfl ?_
     exact ⟨retB_false (fun h => c31 (h k (by have := hc.slabs.len; omega)).2.2), B0⟩
   ·clear f A; intro c28 W30 hb29 A f
    replace B0 := Below.next B0 hb29; replace rb1 := row_next rb1 hb29; replace rb4 := row_next rb4 hb29; replace rb9 := row_next rb9 hb29
    refine l_do f rfl rfl rfl (y_not rfl rfl) ?_; clear f A; intro A f
    refine l_do f rfl rfl rfl (y_move rfl rfl) ?_; clear f A; intro A f
    refine l_no f rfl rfl rfl ?_; clear f A; intro A f
    refine l_no f rfl rfl rfl ?_; clear f A; intro A f
    refine l_no f rfl rfl rfl ?_; clear f A; intro A f
    refine l_no f rfl rfl rfl ?_; clear f A; intro A f
    refine l_no f rfl rfl rfl ?_; clear f A; intro A f
    refine l_do f rfl rfl rfl (y_pick rfl rfl rfl) ?_; clear f A; intro A f
    refine wpList_nil ?_
    refine x_tn ?_
    refine x_condT f rfl ?_
    refine wp_seq ?_
    refine sx_list ?_
    refine l_do f rfl rfl rfl (y_assign rfl rfl) ?_; clear f A; intro A f
    refine wpList_nil ?_
    refine x_tn ?_
    refine wp_ret ?_
    refine x_br ?_
    refine x_tr ?_
    refine x_tr ?_
    refine x_br ?_
    refine x_tr ?_
    refine x_ret1 f rfl rfl ?_
    refine ⟨retB_false (fun h => ?_), B0⟩
    have h1 := (h k (by have := hc.slabs.len; omega)).2.1
    exact c28 (isLive_to hXe.out hx.heap.live.len h1)
 ·clear f A; intro c8 A f
  refine wpList_nil ?_
  refine x_tn ?_
  refine wp_seq ?_
  refine x_condF f rfl ?_
  refine wp_exit ?_
  refine x_te ?_
  refine x_te ?_
  refine x_bh ?_
  refine x_tn ?_
  refine wp_seq ?_
  refine sx_list ?_
  refine l_do f rfl rfl rfl (y_assign rfl rfl) ?_; clear f A; intro A f
  refine wpList_nil ?_
  refine x_tn ?_
  refine wp_ret ?_
  refine x_ret1 f rfl rfl ?_
  exact ⟨retB_true (fun k hk => hd k (by have := hc.slabs.len; omega)), B0⟩
theorem in_c (n lo hi : Int) (w : World) : Calls Try.prog 36 #[.int .i64 n, .int .i64 lo, .int .i64 hi] w fun e w' => e = .returned (.bool (decide (lo ≤ n ∧ n ≤ hi))) ∧ Below w.heap.size w w' := c_same (in_any n lo hi w)
end Go.Proofs.Ytnijjpakpphhhaa
