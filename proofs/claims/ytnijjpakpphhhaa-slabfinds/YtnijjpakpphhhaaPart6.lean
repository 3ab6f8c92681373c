/-
  OWN TEXTS.
-/
import Derived.Test.YtnijjpakpphhhaaPart5
import Derived.Maps.OwnSet
set_option maxRecDepth 10000
set_option maxHeartbeats 4000000
namespace Go.Proofs.Ytnijjpakpphhhaa
open Go Go.RowKit Go.Proofs.Ytnijjpakpphhhaa.Kit
theorem objAt_of {c : Ch} {b : Bk} {x : Int} (h : ∃ i : Nat, (i : Int) < c.per ∧ x = 16 * b.a + i * c.size) (hs : 1 ≤ c.size := by omega) : objAt c b x := by
 obtain ⟨i, h1, rfl⟩ := h
 have e : 16 * b.a + i * c.size - 16 * b.a = i * c.size := by omega
 have h2 := Int.mul_nonneg (show 0 ≤ (i : Int) by omega) (show 0 ≤ c.size by omega)
 have h3 := Int.mul_le_mul_of_nonneg_right (show (i : Int) + 1 ≤ c.per by omega) (show 0 ≤ c.size by omega)
 rw [Int.add_mul, Int.one_mul] at h3
 refine ⟨by omega, by rw [e, Int.mul_comm c.size]; omega, by rw [e]; exact Int.mul_emod_left _ _⟩
theorem objAt_to {c : Ch} {b : Bk} {x : Int} (hs : 1 ≤ c.size) (h : objAt c b x) : ∃ i : Nat, (i : Int) < c.per ∧ x = 16 * b.a + i * c.size := by
 obtain ⟨h1, h2, h3⟩ := h
 have h4 := Int.ediv_nonneg (show 0 ≤ x - 16 * b.a by omega) (show 0 ≤ c.size by omega)
 obtain ⟨i, hi⟩ := Int.eq_ofNat_of_zero_le h4
 have h5 := Int.mul_ediv_add_emod (x - 16 * b.a) c.size
 have h6 : (x - 16 * b.a) / c.size < c.per := Int.ediv_lt_of_lt_mul (by omega) (by rw [Int.mul_comm c.per c.size]; exact h2)
 rw [h3, hi] at h5
 refine ⟨i, by omega, ?_⟩
 rw [Int.mul_comm c.size] at h5
 omega
theorem live_asc {l : List Bk} (h : LvsOk l) : ∀ d i : Nat, i + d + 1 < l.length → (l.getD i .zero).a < (l.getD (i + d + 1) .zero).a
 | 0, i, hi => h.ord (i + 1) (by omega) hi
 | d + 1, i, hi => by
  have h1 := live_asc h d i (by omega)
  have h2 := h.ord (i + (d + 1) + 1) (by omega) hi
  rw [show i + (d + 1) + 1 - 1 = i + d + 1 by omega] at h2
  omega
theorem live_one {l : List Bk} (h : LvsOk l) {i j : Nat} (hi : i < l.length) (hj : j < l.length) (e : (l.getD i .zero).a = (l.getD j .zero).a) : i = j := by
 rcases Nat.lt_trichotomy i j with h1 | h1 | h1
 ·have := live_asc h (j - i - 1) i (by omega)
  rw [show i + (j - i - 1) + 1 = j by omega] at this
  omega
 ·exact h1
 ·have := live_asc h (i - j - 1) j (by omega)
  rw [show j + (i - j - 1) + 1 = i by omega] at this
  omega
theorem live_hit {l : List Bk} {k : Nat} {a o t b : Int} {p : Int} (h : LvsOk l) (hk : k < l.length) (e : l.getD k .zero = ⟨a, o, t⟩) (ea : a = b) : o = p ↔ ∃ v ∈ l, v.a = b ∧ v.o = p := by
 constructor
 ·rintro rfl
  exact ⟨_, getD_mem (d := Bk.zero) hk, by rw [e]; exact ea, by rw [e]⟩
 ·rintro ⟨v, hv, h1, h2⟩
  obtain ⟨i, hi, rfl⟩ := List.getElem_of_mem hv
  have e2 : l.getD i .zero = l[i] := by rw [List.getD_eq_getElem?_getD, List.getElem?_eq_getElem hi]; rfl
  have := live_one h hi hk (by rw [e2, e, h1]; exact ea.symm)
  subst this
  rw [← h2, ← e2, e]
theorem refNameMay_any (w : World) (s : ByteArray) (hml : s.size ≤ 9223372036854775807) :
    Calls Try.prog 18 #[.string s] w fun e w' => RetB e (NameOk s) ∧ Below w.heap.size w w' := by
 have B0 := Below.refl w.heap.size w
 refine sx_enter (args := [_]) 36 Try.func18 rfl rfl rfl ?_
 intro A f
 refine wp_seq ?_
 refine sx_list ?_
 refine l_do f rfl rfl rfl (y_assign rfl rfl) ?_; clear f A; intro A f
 refine wpList_nil ?_
 refine x_tn ?_
 refine wp_seq ?_
 refine wp_seq ?_
 refine sx_list ?_
 refine l_do f rfl rfl rfl (y_assign rfl rfl) ?_; clear f A; intro A f
 refine wpList_nil ?_
 refine x_tn ?_
 refine wp_block ?_
 obtain ⟨z, hz⟩ : ∃ z, z = s.size := ⟨_, rfl⟩
 refine x_loop (fun n A W => ∃ k : Nat, n = z - k ∧ k ≤ z ∧ Fr A 36 [(0, .string s), (3, .int .i64 (k : Nat))] ∧ Below w.heap.size w W ∧ ∀ i, i < k → byteOk (s.data.getD i 0)) (n0 := z) (⟨0, rfl, Nat.zero_le _, f.sub ⟨rfl, rfl, trivial⟩, B0, fun i hi => absurd hi (Nat.not_lt_zero i)⟩) ?_
 clear f A
 clear B0
 rintro n A W1 ⟨k, hn, hk, f, B0, hd⟩
 refine wp_seq ?_
 refine wp_seq ?_
 refine sx_list ?_
 refine l_do f rfl rfl rfl (y_move rfl rfl) ?_; clear f A; intro A f
 refine l_do f rfl rfl rfl (y_move rfl rfl) ?_; clear f A; intro A f
 refine l_do f rfl rfl rfl (y_lenS Try.underlying9 rfl rfl) ?_; clear f A; intro A f
 refine l_if _ f rfl rfl rfl (y_lss rfl rfl rfl) ?_ ?_
 ·clear f A; intro c2 A f
  refine wpList_nil ?_
  refine x_tn ?_
  refine x_condT f rfl ?_
  refine wp_skip ?_
  refine x_tn ?_
  refine wp_seq ?_
  refine wp_block ?_
  refine wp_seq ?_
  refine sx_list ?_
  refine l_do f rfl rfl rfl (y_move rfl rfl) ?_; clear f A; intro A f
  refine l_do f rfl rfl rfl (y_move rfl rfl) ?_; clear f A; intro A f
  refine l_do f rfl rfl rfl (y_indexS Try.underlying9 rfl rfl rfl (by omega)) ?_; clear f A; intro A f
  refine l_if _ f rfl rfl rfl (y_geq rfl rfl rfl) ?_ ?_
  ·clear f A; intro c3 A f
   refine l_do f rfl rfl rfl (y_move rfl rfl) ?_; clear f A; intro A f
   refine l_do f rfl rfl rfl (y_move rfl rfl) ?_; clear f A; intro A f
   refine l_do f rfl rfl rfl (y_move rfl rfl) ?_; clear f A; intro A f
   refine l_do f rfl rfl rfl (y_indexS Try.underlying9 rfl rfl rfl (by omega)) ?_; clear f A; intro A f
   refine l_if _ f rfl rfl rfl (y_leq rfl rfl rfl) ?_ ?_
   ·clear f A; intro c4 A f
    refine l_do f rfl rfl rfl (y_pick rfl rfl rfl) ?_; clear f A; intro A f
    refine l_do f rfl rfl rfl (y_move rfl rfl) ?_; clear f A; intro A f
    refine l_no f rfl rfl rfl ?_; clear f A; intro A f
    refine l_no f rfl rfl rfl ?_; clear f A; intro A f
    refine l_no f rfl rfl rfl ?_; clear f A; intro A f
    refine l_no f rfl rfl rfl ?_; clear f A; intro A f
    refine l_no f rfl rfl rfl ?_; clear f A; intro A f
    refine l_no f rfl rfl rfl ?_; clear f A; intro A f
    refine l_no f rfl rfl rfl ?_; clear f A; intro A f
    refine l_no f rfl rfl rfl ?_; clear f A; intro A f
    refine l_no f rfl rfl rfl ?_; clear f A; intro A f
    refine l_no f rfl rfl rfl ?_; clear f A; intro A f
    refine l_do f rfl rfl rfl (y_pick rfl rfl rfl) ?_; clear f A; intro A f
    refine l_do f rfl rfl rfl (y_not rfl rfl) ?_; clear f A; intro A f
    refine wpList_nil ?_
    refine x_tn ?_
    refine x_condF f rfl ?_
    refine wp_skip ?_
    refine x_bn ?_
    refine x_tn ?_
    refine sx_list ?_
    refine l_do f rfl rfl rfl (y_move rfl rfl) ?_; clear f A; intro A f
    refine l_do f rfl rfl rfl (y_add rfl rfl rfl rfl (by omega)) ?_; clear f A; intro A f
    refine l_do f rfl rfl rfl (y_assign rfl rfl) ?_; clear f A; intro A f
    refine wpList_nil ?_
    refine x_tn ?_
    exact ⟨z - (k + 1), by omega, k + 1, rfl, by omega, f.sub ⟨rfl, rfl, trivial⟩, B0, fun i hi => by by_cases e : i = k; (subst e; unfold byteOk; omega); exact hd i (by omega)⟩
   ·clear f A; intro c4 A f
    refine l_do f rfl rfl rfl (y_pick rfl rfl rfl) ?_; clear f A; intro A f
    refine l_do f rfl rfl rfl (y_move rfl rfl) ?_; clear f A; intro A f
    refine l_do f rfl rfl rfl (y_move rfl rfl) ?_; clear f A; intro A f
    refine l_do f rfl rfl rfl (y_move rfl rfl) ?_; clear f A; intro A f
    refine l_do f rfl rfl rfl (y_indexS Try.underlying9 rfl rfl rfl (by omega)) ?_; clear f A; intro A f
    refine l_if _ f rfl rfl rfl (y_geq rfl rfl rfl) ?_ ?_
    ·clear f A; intro c5 A f
     refine l_do f rfl rfl rfl (y_move rfl rfl) ?_; clear f A; intro A f
     refine l_do f rfl rfl rfl (y_move rfl rfl) ?_; clear f A; intro A f
     refine l_do f rfl rfl rfl (y_move rfl rfl) ?_; clear f A; intro A f
     refine l_do f rfl rfl rfl (y_indexS Try.underlying9 rfl rfl rfl (by omega)) ?_; clear f A; intro A f
     refine l_if _ f rfl rfl rfl (y_leq rfl rfl rfl) ?_ ?_
     ·clear f A; intro c6 A f
      refine l_do f rfl rfl rfl (y_pick rfl rfl rfl) ?_; clear f A; intro A f
      refine l_do f rfl rfl rfl (y_pick rfl rfl rfl) ?_; clear f A; intro A f
      refine l_do f rfl rfl rfl (y_not rfl rfl) ?_; clear f A; intro A f
      refine wpList_nil ?_
      refine x_tn ?_
      refine x_condF f rfl ?_
      refine wp_skip ?_
      refine x_bn ?_
      refine x_tn ?_
      refine sx_list ?_
      refine l_do f rfl rfl rfl (y_move rfl rfl) ?_; clear f A; intro A f
      refine l_do f rfl rfl rfl (y_add rfl rfl rfl rfl (by omega)) ?_; clear f A; intro A f
      refine l_do f rfl rfl rfl (y_assign rfl rfl) ?_; clear f A; intro A f
      refine wpList_nil ?_
      refine x_tn ?_
      exact ⟨z - (k + 1), by omega, k + 1, rfl, by omega, f.sub ⟨rfl, rfl, trivial⟩, B0, fun i hi => by by_cases e : i = k; (subst e; unfold byteOk; omega); exact hd i (by omega)⟩
     ·clear f A; intro c6 A f
      refine l_do f rfl rfl rfl (y_pick rfl rfl rfl) ?_; clear f A; intro A f
      refine l_do f rfl rfl rfl (y_pick rfl rfl rfl) ?_; clear f A; intro A f
      refine l_do f rfl rfl rfl (y_not rfl rfl) ?_; clear f A; intro A f
      refine wpList_nil ?_
      refine x_tn ?_
      refine x_condT f rfl ?_
      refine wp_seq ?_
      refine sx_list ?_
      refine l_do f rfl rfl rfl (y_assign rfl rfl) ?_; clear f A; intro A f
      refine wpList_nil ?_
      refine x_tn ?_
      refine wp_ret ?_
      refine x_br ?_
      refine x_tr ?_
      refine x_tr ?_
      refine x_br ?_
      refine x_tr ?_
      refine x_ret1 f rfl rfl ?_
      exact ⟨retB_false (fun h => by have h1 := h.at_ k (by omega); unfold byteOk at h1; omega), B0⟩
    ·clear f A; intro c5 A f
     refine l_do f rfl rfl rfl (y_move rfl rfl) ?_; clear f A; intro A f
     refine l_no f rfl rfl rfl ?_; clear f A; intro A f
     refine l_no f rfl rfl rfl ?_; clear f A; intro A f
     refine l_no f rfl rfl rfl ?_; clear f A; intro A f
     refine l_no f rfl rfl rfl ?_; clear f A; intro A f
     refine l_do f rfl rfl rfl (y_pick rfl rfl rfl) ?_; clear f A; intro A f
     refine l_do f rfl rfl rfl (y_pick rfl rfl rfl) ?_; clear f A; intro A f
     refine l_do f rfl rfl rfl (y_not rfl rfl) ?_; clear f A; intro A f
     refine wpList_nil ?_
     refine x_tn ?_
     refine x_condT f rfl ?_
     refine wp_seq ?_
     refine sx_list ?_
     refine l_do f rfl rfl rfl (y_assign rfl rfl) ?_; clear f A; intro A f
     refine wpList_nil ?_
     refine x_tn ?_
     refine wp_ret ?_
     refine x_br ?_
     refine x_tr ?_
     refine x_tr ?_
     refine x_br ?_
     refine x_tr ?_
     refine x_ret1 f rfl rfl ?_
     exact ⟨retB_false (fun h => by have h1 := h.at_ k (by omega); unfold byteOk at h1; omega), B0⟩
  ·clear f A; intro c3 A f
   refine l_do f rfl rfl rfl (y_move rfl rfl) ?_; clear f A; intro A f
   refine l_no f rfl rfl rfl ?_; clear f A; intro A f
   refine l_no f rfl rfl rfl ?_; clear f A; intro A f
   refine l_no f rfl rfl rfl ?_; clear f A; intro A f
   refine l_no f rfl rfl rfl ?_; clear f A; intro A f
   refine l_do f rfl rfl rfl (y_pick rfl rfl rfl) ?_; clear f A; intro A f
   refine l_do f rfl rfl rfl (y_move rfl rfl) ?_; clear f A; intro A f
   refine l_do f rfl rfl rfl (y_move rfl rfl) ?_; clear f A; intro A f
   refine l_do f rfl rfl rfl (y_move rfl rfl) ?_; clear f A; intro A f
   refine l_do f rfl rfl rfl (y_indexS Try.underlying9 rfl rfl rfl (by omega)) ?_; clear f A; intro A f
   refine l_if _ f rfl rfl rfl (y_geq rfl rfl rfl) ?_ ?_
   ·clear f A; intro c7 A f
    refine l_do f rfl rfl rfl (y_move rfl rfl) ?_; clear f A; intro A f
    refine l_do f rfl rfl rfl (y_move rfl rfl) ?_; clear f A; intro A f
    refine l_do f rfl rfl rfl (y_move rfl rfl) ?_; clear f A; intro A f
    refine l_do f rfl rfl rfl (y_indexS Try.underlying9 rfl rfl rfl (by omega)) ?_; clear f A; intro A f
    refine l_if _ f rfl rfl rfl (y_leq rfl rfl rfl) ?_ ?_
    ·clear f A; intro c8 A f
     refine l_do f rfl rfl rfl (y_pick rfl rfl rfl) ?_; clear f A; intro A f
     refine l_do f rfl rfl rfl (y_pick rfl rfl rfl) ?_; clear f A; intro A f
     refine l_do f rfl rfl rfl (y_not rfl rfl) ?_; clear f A; intro A f
     refine wpList_nil ?_
     refine x_tn ?_
     refine x_condF f rfl ?_
     refine wp_skip ?_
     refine x_bn ?_
     refine x_tn ?_
     refine sx_list ?_
     refine l_do f rfl rfl rfl (y_move rfl rfl) ?_; clear f A; intro A f
     refine l_do f rfl rfl rfl (y_add rfl rfl rfl rfl (by omega)) ?_; clear f A; intro A f
     refine l_do f rfl rfl rfl (y_assign rfl rfl) ?_; clear f A; intro A f
     refine wpList_nil ?_
     refine x_tn ?_
     exact ⟨z - (k + 1), by omega, k + 1, rfl, by omega, f.sub ⟨rfl, rfl, trivial⟩, B0, fun i hi => by by_cases e : i = k; (subst e; unfold byteOk; omega); exact hd i (by omega)⟩
    ·clear f A; intro c8 A f
     refine l_do f rfl rfl rfl (y_pick rfl rfl rfl) ?_; clear f A; intro A f
     refine l_do f rfl rfl rfl (y_pick rfl rfl rfl) ?_; clear f A; intro A f
     refine l_do f rfl rfl rfl (y_not rfl rfl) ?_; clear f A; intro A f
     refine wpList_nil ?_
     refine x_tn ?_
     refine x_condT f rfl ?_
     refine wp_seq ?_
     refine sx_list ?_
     refine l_do f rfl rfl rfl (y_assign rfl rfl) ?_; clear f A; intro A f
     refine wpList_nil ?_
     refine x_tn ?_
     refine wp_ret ?_
     refine x_br ?_
     refine x_tr ?_
     refine x_tr ?_
     refine x_br ?_
     refine x_tr ?_
     refine x_ret1 f rfl rfl ?_
     exact ⟨retB_false (fun h => by have h1 := h.at_ k (by omega); unfold byteOk at h1; omega), B0⟩
   ·clear f A; intro c7 A f
    refine l_do f rfl rfl rfl (y_move rfl rfl) ?_; clear f A; intro A f
    refine l_no f rfl rfl rfl ?_; clear f A; intro A f
    refine l_no f rfl rfl rfl ?_; clear f A; intro A f
    refine l_no f rfl rfl rfl ?_; clear f A; intro A f
    refine l_no f rfl rfl rfl ?_; clear f A; intro A f
    refine l_do f rfl rfl rfl (y_pick rfl rfl rfl) ?_; clear f A; intro A f
    refine l_do f rfl rfl rfl (y_pick rfl rfl rfl) ?_; clear f A; intro A f
    refine l_do f rfl rfl rfl (y_not rfl rfl) ?_; clear f A; intro A f
    refine wpList_nil ?_
    refine x_tn ?_
    refine x_condT f rfl ?_
    refine wp_seq ?_
    refine sx_list ?_
    refine l_do f rfl rfl rfl (y_assign rfl rfl) ?_; clear f A; intro A f
    refine wpList_nil ?_
    refine x_tn ?_
    refine wp_ret ?_
    refine x_br ?_
    refine x_tr ?_
    refine x_tr ?_
    refine x_br ?_
    refine x_tr ?_
    refine x_ret1 f rfl rfl ?_
    exact ⟨retB_false (fun h => by have h1 := h.at_ k (by omega); unfold byteOk at h1; omega), B0⟩
 ·clear f A; intro c2 A f
  refine wpList_nil ?_
  refine x_tn ?_
  refine x_condF f rfl ?_
  refine wp_exit ?_
  refine x_te ?_
  refine x_te ?_
  refine x_bh ?_
  refine x_tn ?_
  refine wp_seq ?_
  refine sx_list ?_
  refine l_do f rfl rfl rfl (y_move rfl rfl) ?_; clear f A; intro A f
  refine l_do f rfl rfl rfl (y_lenS Try.underlying9 rfl rfl) ?_; clear f A; intro A f
  refine l_callif _ f rfl rfl rfl (IsCall.mk' (cap := []) rfl rfl rfl) (pl rfl) (in_c _ 1 8 _) ?_ ?_
  ·clear f A; intro c9 W11 hb10 A f
   replace B0 := Below.next B0 hb10
   refine l_do f rfl rfl rfl (y_assign rfl rfl) ?_; clear f A; intro A f
   refine wpList_nil ?_
   refine x_tn ?_
   refine wp_ret ?_
   refine x_ret1 f rfl rfl ?_
   exact ⟨retB_true ⟨by omega, by omega, fun i hi => hd i (by omega)⟩, B0⟩
  ·clear f A; intro c9 W11 hb10 A f
   replace B0 := Below.next B0 hb10
   refine l_do f rfl rfl rfl (y_assign rfl rfl) ?_; clear f A; intro A f
   refine wpList_nil ?_
   refine x_tn ?_
   refine wp_ret ?_
   refine x_ret1 f rfl rfl ?_
   exact ⟨retB_false (fun h => by have h1 := h.lo; have h2 := h.hi; omega), B0⟩
theorem refIsObj_any (w : World) (c : Cc) (b : Bk) (a x : Int) (hba : b.a = a) (hs : 1 ≤ c.c.size ∧ c.c.size ≤ 64) (hp : c.c.per = layN c.c.size) (ha : 0 ≤ a ∧ a < 256) :
    Calls Try.prog 24 #[.agg #[.slice c.no c.nn c.nc, .int .i64 c.c.size, .int .i64 c.c.per, .int .i64 c.c.order, .slice c.so c.sn c.sc, .slice c.ao c.an c.ac], .int .i64 a, .int .i64 x] w fun e w' => RetB e (objAt c.c b x) ∧ Below w.heap.size w w' := by
 have hm := layN_mul hs
 rw [← hp] at hm
 obtain ⟨pz, hpz⟩ : ∃ pz : Nat, pz = c.c.per.toNat := ⟨_, rfl⟩
 have hpe : c.c.per = pz := by omega
 have B0 := Below.refl w.heap.size w
 refine sx_enter (args := [_, _, _]) 23 Try.func24 rfl rfl rfl ?_
 intro A f
 refine wp_seq ?_
 refine sx_list ?_
 refine l_box f rfl rfl rfl rfl rfl ?_; clear f A; intro b1 W2 eb1 hb3 rb1 A f; dsimp only [Value.cells] at rb1
 have z_B0_b1 := B0.size; rw [eb1] at z_B0_b1
 replace B0 := Below.next B0 hb3
 refine l_do f rfl rfl rfl (y_assign rfl rfl) ?_; clear f A; intro A f
 refine wpList_nil ?_
 refine x_tn ?_
 refine wp_seq ?_
 refine wp_seq ?_
 refine sx_list ?_
 refine l_do f rfl rfl rfl (y_assign rfl rfl) ?_; clear f A; intro A f
 refine wpList_nil ?_
 refine x_tn ?_
 refine wp_block ?_
 refine x_loop (fun n A W => ∃ k : Nat, n = pz - k ∧ k ≤ pz ∧ Fr A 23 [(1, .int .i64 a), (2, .int .i64 x), (3, .pointer (some ⟨b1, 0, none⟩)), (7, .int .i64 (k : Nat))] ∧ Below w.heap.size w W ∧ W.heap[b1]? = some (.cells #[.slice c.no c.nn c.nc, .int .i64 c.c.size, .int .i64 c.c.per, .int .i64 c.c.order, .slice c.so c.sn c.sc, .slice c.ao c.an c.ac] 45 (0, 0)) ∧ ∀ i : Nat, i < k → x ≠ 16 * a + i * c.c.size) (n0 := pz) (⟨0, rfl, Nat.zero_le _, f.sub ⟨rfl, rfl, rfl, rfl, trivial⟩, B0, rb1, fun i hi => absurd hi (Nat.not_lt_zero i)⟩) ?_
 clear f A
 clear B0 rb1
 rintro n A W4 ⟨k, hn, hk, f, B0, rb1, hd⟩
 refine wp_seq ?_
 refine wp_seq ?_
 refine sx_list ?_
 refine l_do f rfl rfl rfl (y_move rfl rfl) ?_; clear f A; intro A f
 refine l_do f rfl rfl rfl (y_field rfl rfl (fo rfl)) ?_; clear f A; intro A f
 refine l_do f rfl rfl rfl (y_load1 rfl rfl (ag rfl) (rowl (rowq rb1) rfl)) ?_; clear f A; intro A f
 refine l_if _ f rfl rfl rfl (y_lss rfl rfl rfl) ?_ ?_
 ·clear f A; intro c5 A f
  refine wpList_nil ?_
  refine x_tn ?_
  refine x_condT f rfl ?_
  refine wp_skip ?_
  refine x_tn ?_
  refine wp_seq ?_
  refine wp_block ?_
  refine wp_seq ?_
  refine sx_list ?_
  refine l_do f rfl rfl rfl (y_move rfl rfl) ?_; clear f A; intro A f
  refine l_do f rfl rfl rfl (y_move rfl rfl) ?_; clear f A; intro A f
  refine l_do f rfl rfl rfl (y_mul rfl rfl rfl rfl (by omega)) ?_; clear f A; intro A f
  refine l_do f rfl rfl rfl (y_move rfl rfl) ?_; clear f A; intro A f
  refine l_do f rfl rfl rfl (y_field rfl rfl (fo rfl)) ?_; clear f A; intro A f
  refine l_do f rfl rfl rfl (y_load1 rfl rfl (ag rfl) (rowl (rowq rb1) rfl)) ?_; clear f A; intro A f
  have hks : 0 ≤ (k : Int) * c.c.size ∧ (k : Int) * c.c.size ≤ 4096 := by
   have h1 := Int.mul_nonneg (show 0 ≤ (k : Int) by omega) (show 0 ≤ c.c.size by omega)
   have h2 := Int.mul_le_mul (show (k : Int) ≤ 64 by omega) (show c.c.size ≤ 64 by omega) (by omega) (by omega)
   omega
  refine l_do f rfl rfl rfl (y_mul rfl rfl rfl rfl (by omega)) ?_; clear f A; intro A f
  refine l_do f rfl rfl rfl (y_add rfl rfl rfl rfl (by omega)) ?_; clear f A; intro A f
  refine l_if _ f rfl rfl rfl (y_eql rfl rfl rfl) ?_ ?_
  ·clear f A; intro c6 A f
   refine wpList_nil ?_
   refine x_tn ?_
   refine x_condT f rfl ?_
   refine wp_seq ?_
   refine sx_list ?_
   refine l_do f rfl rfl rfl (y_assign rfl rfl) ?_; clear f A; intro A f
   refine wpList_nil ?_
   refine x_tn ?_
   refine wp_ret ?_
   refine x_br ?_
   refine x_tr ?_
   refine x_tr ?_
   refine x_br ?_
   refine x_tr ?_
   refine x_ret1 f rfl rfl ?_
   exact ⟨retB_true (objAt_of ⟨k, by omega, by omega⟩), B0⟩
  ·clear f A; intro c6 A f
   refine wpList_nil ?_
   refine x_tn ?_
   refine x_condF f rfl ?_
   refine wp_skip ?_
   refine x_bn ?_
   refine x_tn ?_
   refine sx_list ?_
   refine l_do f rfl rfl rfl (y_move rfl rfl) ?_; clear f A; intro A f
   refine l_do f rfl rfl rfl (y_add rfl rfl rfl rfl (by omega)) ?_; clear f A; intro A f
   refine l_do f rfl rfl rfl (y_assign rfl rfl) ?_; clear f A; intro A f
   refine wpList_nil ?_
   refine x_tn ?_
   exact ⟨pz - (k + 1), by omega, k + 1, rfl, by omega, f.sub ⟨rfl, rfl, rfl, rfl, trivial⟩, B0, rb1, fun i hi => by by_cases e : i = k; (subst e; omega); exact hd i (by omega)⟩
 ·clear f A; intro c5 A f
  refine wpList_nil ?_
  refine x_tn ?_
  refine x_condF f rfl ?_
  refine wp_exit ?_
  refine x_te ?_
  refine x_te ?_
  refine x_bh ?_
  refine x_tn ?_
  refine wp_seq ?_
  refine sx_list ?_
  refine l_do f rfl rfl rfl (y_assign rfl rfl) ?_; clear f A; intro A f
  refine wpList_nil ?_
  refine x_tn ?_
  refine wp_ret ?_
  refine x_ret1 f rfl rfl ?_
  exact ⟨retB_false (fun h => by obtain ⟨i, h1, h2⟩ := objAt_to (by omega) h; rw [hba] at h2; exact hd i (by omega) h2), B0⟩
theorem refSlabAt_any (w : World) (c : Cc) (a : Int) (hc : Blks w c.so c.sn c.c.slabs) :
    Calls Try.prog 44 #[.agg #[.slice c.no c.nn c.nc, .int .i64 c.c.size, .int .i64 c.c.per, .int .i64 c.c.order, .slice c.so c.sn c.sc, .slice c.ao c.an c.ac], .int .i64 a] w fun e w' => slabFound e c.sn c.c.slabs (fun b => b.a = a) ∧ Below w.heap.size w w' := by
 have hlr := hc.reach
 have hll := hc.len
 have B0 := Below.refl w.heap.size w
 refine sx_enter (args := [_, _]) 22 Try.func44 rfl rfl rfl ?_
 intro A f
 refine wp_seq ?_
 refine sx_list ?_
 refine l_box f rfl rfl rfl rfl rfl ?_; clear f A; intro b1 W2 eb1 hb3 rb1 A f; dsimp only [Value.cells] at rb1
 have z_B0_b1 := B0.size; rw [eb1] at z_B0_b1
 replace B0 := Below.next B0 hb3
 refine l_do f rfl rfl rfl (y_assign rfl rfl) ?_; clear f A; intro A f
 refine wpList_nil ?_
 refine x_tn ?_
 refine wp_seq ?_
 refine wp_seq ?_
 refine sx_list ?_
 refine l_do f rfl rfl rfl (y_assign rfl rfl) ?_; clear f A; intro A f
 refine wpList_nil ?_
 refine x_tn ?_
 refine wp_block ?_
 refine x_loop (fun n A W => ∃ k : Nat, n = c.sn - k ∧ k ≤ c.sn ∧ Fr A 22 [(1, .int .i64 a), (2, .pointer (some ⟨b1, 0, none⟩)), (5, .int .i64 (k : Nat))] ∧ Below w.heap.size w W ∧ W.heap[b1]? = some (.cells #[.slice c.no c.nn c.nc, .int .i64 c.c.size, .int .i64 c.c.per, .int .i64 c.c.order, .slice c.so c.sn c.sc, .slice c.ao c.an c.ac] 45 (0, 0)) ∧ ∀ j, j < k → ¬ (c.c.slabs.getD j .zero).a = a) (n0 := c.sn) (⟨0, rfl, Nat.zero_le _, f.sub ⟨rfl, rfl, rfl, trivial⟩, B0, rb1, fun i hi => absurd hi (Nat.not_lt_zero i)⟩) ?_
 clear f A
 clear B0 rb1
 rintro n A W4 ⟨k, hn, hk, f, B0, rb1, hd⟩
 refine wp_seq ?_
 refine wp_seq ?_
 refine sx_list ?_
 refine l_do f rfl rfl rfl (y_move rfl rfl) ?_; clear f A; intro A f
 refine l_do f rfl rfl rfl (y_field rfl rfl (fo rfl)) ?_; clear f A; intro A f
 refine l_do f rfl rfl rfl (y_load1 rfl rfl (ag rfl) (rowl (rowq rb1) rfl)) ?_; clear f A; intro A f
 refine l_do f rfl rfl rfl (y_len rfl rfl (sl rfl)) ?_; clear f A; intro A f
 refine l_if _ f rfl rfl rfl (y_lss rfl rfl rfl) ?_ ?_
 ·clear f A; intro c5 A f
  refine wpList_nil ?_
  refine x_tn ?_
  refine x_condT f rfl ?_
  refine wp_skip ?_
  refine x_tn ?_
  refine wp_seq ?_
  refine wp_block ?_
  refine wp_seq ?_
  refine sx_list ?_
  refine l_do f rfl rfl rfl (y_field rfl rfl (fo rfl)) ?_; clear f A; intro A f
  refine l_do f rfl rfl rfl (y_load1 rfl rfl (ag rfl) (rowl (rowq rb1) rfl)) ?_; clear f A; intro A f
  refine l_do f rfl rfl rfl (y_move rfl rfl) ?_; clear f A; intro A f
  obtain ⟨ge, oe, bae, boe, bte, hae, c0e, c1e, c2e, hXe⟩ := hc.at_.at (k) (by have := hc.len; omega)
  replace c0e := St.of c0e; replace c1e := St.of c1e; replace c2e := St.of c2e
  refine l_do f rfl rfl rfl (y_index rfl rfl (by first | rfl | assumption) rfl (es rfl) (by omega)) ?_; clear f A; intro A f
  refine l_do f rfl rfl rfl (y_field rfl rfl (fo rfl)) ?_; clear f A; intro A f
  refine l_do f rfl rfl rfl (y_load1 rfl rfl (ag rfl) (by first | assumption | exact St.q c0e B0 | exact St.q c1e B0 | exact St.q c2e B0)) ?_; clear f A; intro A f
  refine l_do f rfl rfl rfl (y_move rfl rfl) ?_; clear f A; intro A f
  refine l_if _ f rfl rfl rfl (y_eql rfl rfl rfl) ?_ ?_
  ·clear f A; intro c6 A f
   refine wpList_nil ?_
   refine x_tn ?_
   refine x_condT f rfl ?_
   refine wp_seq ?_
   refine sx_list ?_
   refine l_do f rfl rfl rfl (y_move rfl rfl) ?_; clear f A; intro A f
   refine l_do f rfl rfl rfl (y_assign rfl rfl) ?_; clear f A; intro A f
   refine wpList_nil ?_
   refine x_tn ?_
   refine wp_ret ?_
   refine x_br ?_
   refine x_tr ?_
   refine x_tr ?_
   refine x_br ?_
   refine x_tr ?_
   refine x_ret1 f rfl rfl ?_
   exact ⟨.inl ⟨k, by omega, rfl, by rw [hXe.out]; exact c6, hd⟩, B0⟩
  ·clear f A; intro c6 A f
   refine wpList_nil ?_
   refine x_tn ?_
   refine x_condF f rfl ?_
   refine wp_skip ?_
   refine x_bn ?_
   refine x_tn ?_
   refine sx_list ?_
   refine l_do f rfl rfl rfl (y_move rfl rfl) ?_; clear f A; intro A f
   refine l_do f rfl rfl rfl (y_add rfl rfl rfl rfl (by omega)) ?_; clear f A; intro A f
   refine l_do f rfl rfl rfl (y_assign rfl rfl) ?_; clear f A; intro A f
   refine wpList_nil ?_
   refine x_tn ?_
   exact ⟨c.sn - (k + 1), by omega, k + 1, rfl, by omega, f.sub ⟨rfl, rfl, rfl, trivial⟩, B0, rb1, fun i hi => by by_cases e : i = k; (subst e; rw [hXe.out]; assumption); exact hd i (by omega)⟩
 ·clear f A; intro c5 A f
  refine wpList_nil ?_
  refine x_tn ?_
  refine x_condF f rfl ?_
  refine wp_exit ?_
  refine x_te ?_
  refine x_te ?_
  refine x_bh ?_
  refine x_tn ?_
  refine wp_seq ?_
  refine sx_list ?_
  refine l_do f rfl rfl rfl (y_assign rfl rfl) ?_; clear f A; intro A f
  refine wpList_nil ?_
  refine x_tn ?_
  refine wp_ret ?_
  refine x_ret1 f rfl rfl ?_
  exact ⟨.inr ⟨rfl, fun j hj => hd j (by omega)⟩, B0⟩
theorem liveOrder_any (w : World) (x : Hx) (a : Int) (hx : x.At w) :
    Calls Try.prog 43 #[.agg #[.slice x.zo x.zn x.zc, .slice x.mo x.mn x.mc, .int .i64 x.cpus, .slice x.lo x.ln x.lc, .slice x.vo x.vn x.vc], .int .i64 a] w fun e w' => ((∃ k : Nat, k < x.vn ∧ e = .returned (.int .i64 (x.live.getD k .zero).o) ∧ (x.live.getD k .zero).a = a ∧ ∀ j, j < k → ¬ (x.live.getD j .zero).a = a) ∨ (e = .returned (.int .i64 (-1)) ∧ ∀ j, j < x.vn → ¬ (x.live.getD j .zero).a = a)) ∧ Below w.heap.size w w' := by
 have hlr := hx.live.reach
 have hll := hx.live.len
 have B0 := Below.refl w.heap.size w
 refine sx_enter (args := [_, _]) 27 Try.func43 rfl rfl rfl ?_
 intro A f
 refine wp_seq ?_
 refine sx_list ?_
 refine l_box f rfl rfl rfl rfl rfl ?_; clear f A; intro b1 W2 eb1 hb3 rb1 A f; dsimp only [Value.cells] at rb1
 have z_B0_b1 := B0.size; rw [eb1] at z_B0_b1
 replace B0 := Below.next B0 hb3
 refine l_do f rfl rfl rfl (y_assign rfl rfl) ?_; clear f A; intro A f
 refine wpList_nil ?_
 refine x_tn ?_
 refine wp_seq ?_
 refine wp_seq ?_
 refine sx_list ?_
 refine l_do f rfl rfl rfl (y_assign rfl rfl) ?_; clear f A; intro A f
 refine wpList_nil ?_
 refine x_tn ?_
 refine wp_block ?_
 refine x_loop (fun n A W => ∃ k : Nat, n = x.vn - k ∧ k ≤ x.vn ∧ Fr A 27 [(1, .int .i64 a), (2, .pointer (some ⟨b1, 0, none⟩)), (5, .int .i64 (k : Nat))] ∧ Below w.heap.size w W ∧ W.heap[b1]? = some (.cells #[.slice x.zo x.zn x.zc, .slice x.mo x.mn x.mc, .int .i64 x.cpus, .slice x.lo x.ln x.lc, .slice x.vo x.vn x.vc] 27 (0, 0)) ∧ ∀ j, j < k → ¬ (x.live.getD j .zero).a = a) (n0 := x.vn) (⟨0, rfl, Nat.zero_le _, f.sub ⟨rfl, rfl, rfl, trivial⟩, B0, rb1, fun i hi => absurd hi (Nat.not_lt_zero i)⟩) ?_
 clear f A
 clear B0 rb1
 rintro n A W4 ⟨k, hn, hk, f, B0, rb1, hd⟩
 refine wp_seq ?_
 refine wp_seq ?_
 refine sx_list ?_
 refine l_do f rfl rfl rfl (y_move rfl rfl) ?_; clear f A; intro A f
 refine l_do f rfl rfl rfl (y_field rfl rfl (fo rfl)) ?_; clear f A; intro A f
 refine l_do f rfl rfl rfl (y_load1 rfl rfl (ag rfl) (rowl (rowq rb1) rfl)) ?_; clear f A; intro A f
 refine l_do f rfl rfl rfl (y_len rfl rfl (sl rfl)) ?_; clear f A; intro A f
 refine l_if _ f rfl rfl rfl (y_lss rfl rfl rfl) ?_ ?_
 ·clear f A; intro c5 A f
  refine wpList_nil ?_
  refine x_tn ?_
  refine x_condT f rfl ?_
  refine wp_skip ?_
  refine x_tn ?_
  refine wp_seq ?_
  refine wp_block ?_
  refine wp_seq ?_
  refine sx_list ?_
  refine l_do f rfl rfl rfl (y_field rfl rfl (fo rfl)) ?_; clear f A; intro A f
  refine l_do f rfl rfl rfl (y_load1 rfl rfl (ag rfl) (rowl (rowq rb1) rfl)) ?_; clear f A; intro A f
  refine l_do f rfl rfl rfl (y_move rfl rfl) ?_; clear f A; intro A f
  obtain ⟨ge, oe, bae, boe, bte, hae, c0e, c1e, c2e, hXe⟩ := hx.live.at_.at (k) (by have := hx.live.len; omega)
  replace c0e := St.of c0e; replace c1e := St.of c1e; replace c2e := St.of c2e
  refine l_do f rfl rfl rfl (y_index rfl rfl (by first | rfl | assumption) rfl (es rfl) (by omega)) ?_; clear f A; intro A f
  refine l_do f rfl rfl rfl (y_field rfl rfl (fo rfl)) ?_; clear f A; intro A f
  refine l_do f rfl rfl rfl (y_load1 rfl rfl (ag rfl) (by first | assumption | exact St.q c0e B0 | exact St.q c1e B0 | exact St.q c2e B0)) ?_; clear f A; intro A f
  refine l_do f rfl rfl rfl (y_move rfl rfl) ?_; clear f A; intro A f
  refine l_if _ f rfl rfl rfl (y_eql rfl rfl rfl) ?_ ?_
  ·clear f A; intro c6 A f
   refine wpList_nil ?_
   refine x_tn ?_
   refine x_condT f rfl ?_
   refine wp_seq ?_
   refine sx_list ?_
   refine l_do f rfl rfl rfl (y_field rfl rfl (fo rfl)) ?_; clear f A; intro A f
   refine l_do f rfl rfl rfl (y_load1 rfl rfl (ag rfl) (rowl (rowq rb1) rfl)) ?_; clear f A; intro A f
   refine l_do f rfl rfl rfl (y_move rfl rfl) ?_; clear f A; intro A f
   refine l_do f rfl rfl rfl (y_index rfl rfl (by first | rfl | assumption) rfl (es rfl) (by omega)) ?_; clear f A; intro A f
   refine l_do f rfl rfl rfl (y_field rfl rfl (fo rfl)) ?_; clear f A; intro A f
   refine l_do f rfl rfl rfl (y_load1 rfl rfl (ag rfl) (by first | assumption | exact St.q c0e B0 | exact St.q c1e B0 | exact St.q c2e B0)) ?_; clear f A; intro A f
   refine l_do f rfl rfl rfl (y_assign rfl rfl) ?_; clear f A; intro A f
   refine wpList_nil ?_
   refine x_tn ?_
   refine wp_ret ?_
   refine x_br ?_
   refine x_tr ?_
   refine x_tr ?_
   refine x_br ?_
   refine x_tr ?_
   refine x_ret1 f rfl rfl ?_
   exact ⟨.inl ⟨k, by omega, by rw [hXe.out], by rw [hXe.out]; exact c6, hd⟩, B0⟩
  ·clear f A; intro c6 A f
   refine wpList_nil ?_
   refine x_tn ?_
   refine x_condF f rfl ?_
   refine wp_skip ?_
   refine x_bn ?_
   refine x_tn ?_
   refine sx_list ?_
   refine l_do f rfl rfl rfl (y_move rfl rfl) ?_; clear f A; intro A f
   refine l_do f rfl rfl rfl (y_add rfl rfl rfl rfl (by omega)) ?_; clear f A; intro A f
   refine l_do f rfl rfl rfl (y_assign rfl rfl) ?_; clear f A; intro A f
   refine wpList_nil ?_
   refine x_tn ?_
   exact ⟨x.vn - (k + 1), by omega, k + 1, rfl, by omega, f.sub ⟨rfl, rfl, rfl, trivial⟩, B0, rb1, fun i hi => by by_cases e : i = k; (subst e; rw [hXe.out]; assumption); exact hd i (by omega)⟩
 ·clear f A; intro c5 A f
  refine wpList_nil ?_
  refine x_tn ?_
  refine x_condF f rfl ?_
  refine wp_exit ?_
  refine x_te ?_
  refine x_te ?_
  refine x_bh ?_
  refine x_tn ?_
  refine wp_seq ?_
  refine sx_list ?_
  refine l_do f rfl rfl rfl (y_assign rfl rfl) ?_; clear f A; intro A f
  refine wpList_nil ?_
  refine x_tn ?_
  refine wp_ret ?_
  refine x_ret1 f rfl rfl ?_
  exact ⟨.inr ⟨rfl, fun j hj => hd j (by omega)⟩, B0⟩
theorem nodup_le {l : List Int} (h : l.Nodup) : ∀ m : List Int, (∀ x ∈ l, x ∈ m) → l.length ≤ m.length := by
 induction l with
 | nil => intro m _; exact Nat.zero_le _
 | cons a l ih =>
  intro m hm
  have h2 := List.nodup_cons.1 h
  have ha := hm a (List.mem_cons.2 (.inl rfl))
  have := ih h2.2 (m.erase a) (fun x hx => (List.mem_erase_of_ne (fun e => h2.1 (by rw [← e]; exact hx))).2 (hm x (List.mem_cons.2 (.inr hx))))
  rw [List.length_erase_of_mem ha] at this
  have h0 : 0 < m.length := List.length_pos_of_mem ha
  simp only [List.length_cons]
  omega
theorem Chain.few {xs : List Int} {a : Int} {l : List Int} (h : Chain xs a l) : l.length ≤ xs.length := by
 have := nodup_le h.nodup ((List.range xs.length).map fun (i : Nat) => (i : Int)) (fun x hx => by
  have := h.in_ x hx
  exact List.mem_map.2 ⟨x.toNat, List.mem_range.2 (by omega), by omega⟩)
 simpa using this
theorem chainOk_of {xs : List Int} {c : Ch} {b : Bk} {l : List Int} (h : Chain xs b.t l) (hl : (l.length : Int) = b.o) (ho : ∀ y ∈ l, objAt c b y) : ChainOk xs c b := by
 refine ⟨by omega, l, fol_of_chain h _ ?_, hl, ho⟩
 have := h.few
 omega
theorem chainOk_to {xs : List Int} {c : Ch} {b : Bk} (hs : 1 ≤ c.size) (hp : 0 ≤ c.per) (h : ChainOk xs c b) : ∃ l, Chain xs b.t l ∧ (l.length : Int) = b.o ∧ (∀ y ∈ l, objAt c b y) ∧ (l.length : Int) ≤ c.per := by
 obtain ⟨h0, l, hf, hl, ho⟩ := h
 have hc := chain_of_fol hf
 refine ⟨l, hc, hl, ho, ?_⟩
 have := nodup_le hc.nodup ((List.range c.per.toNat).map fun (i : Nat) => 16 * b.a + i * c.size) (fun x hx => by
  obtain ⟨i, h1, h2⟩ := objAt_to hs (ho x hx)
  exact List.mem_map.2 ⟨i, List.mem_range.2 (by omega), h2.symm⟩)
 simp only [List.length_map, List.length_range] at this
 omega
theorem retB_dec {g : FuncId} {args : Array Value} {w : World} {p : Prop} [Decidable p] (h : Calls Try.prog g args w fun e w' => RetB e p ∧ Below w.heap.size w w') : Calls Try.prog g args w fun e w' => e = .returned (.bool (decide p)) ∧ Below w.heap.size w w' := by
 refine h.mono ?_
 rintro e w' ⟨⟨r, rfl, hr⟩, hb⟩
 refine ⟨?_, hb⟩
 congr 2
 cases r with
 | true => exact (decide_eq_true (hr.1 rfl)).symm
 | false => exact (decide_eq_false (fun hp => by have := hr.2 hp; cases this)).symm
theorem freeIn_any (w : World) (x : Sy) (c : Cc) (b : Bk) (hx : x.At w) (hs : 1 ≤ c.c.size ∧ c.c.size ≤ 64) (hp : c.c.per = layN c.c.size) (ha : 0 ≤ b.a ∧ b.a < 256) :
    Calls Try.prog 25 #[.agg #[.slice x.wo x.wn x.wc, .slice x.h.zo x.h.zn x.h.zc, .slice x.h.mo x.h.mn x.h.mc, .int .i64 x.h.cpus, .slice x.h.lo x.h.ln x.h.lc, .slice x.h.vo x.h.vn x.h.vc, .slice x.co x.cn x.cc], .agg #[.slice c.no c.nn c.nc, .int .i64 c.c.size, .int .i64 c.c.per, .int .i64 c.c.order, .slice c.so c.sn c.sc, .slice c.ao c.an c.ac], .agg #[.int .i64 b.a, .int .i64 b.o, .int .i64 b.t]] w fun e w' => (∃ lo ln lc r, e = .returned (.tuple #[.slice lo ln lc, .bool r]) ∧ ((r = true ∧ ∃ l, Nums w' lo ln l ∧ Chain x.words b.t l ∧ (l.length : Int) = b.o ∧ ∀ y ∈ l, objAt c.c b y) ∨ (r = false ∧ ln = 0 ∧ ¬ ChainOk x.words c.c b))) ∧ Below w.heap.size w w' := by
 have hm := layN_mul hs
 rw [← hp] at hm
 have B0 := Below.refl w.heap.size w
 refine sx_enter (args := [_, _, _]) 46 Try.func25 rfl rfl rfl ?_
 intro A f
 refine wp_seq ?_
 refine sx_list ?_
 refine l_box f rfl rfl rfl rfl rfl ?_; clear f A; intro b1 W2 eb1 hb3 rb1 A f; dsimp only [Value.cells] at rb1
 have z_B0_b1 := B0.size; rw [eb1] at z_B0_b1
 replace B0 := Below.next B0 hb3
 refine l_box f rfl rfl rfl rfl rfl ?_; clear f A; intro b4 W5 eb4 hb6 rb4 A f; dsimp only [Value.cells] at rb4
 have o_b1_b4 : b1 < b4 := by have := row_lt rb1; omega
 have z_B0_b4 := B0.size; rw [eb4] at z_B0_b4
 replace B0 := Below.next B0 hb6; replace rb1 := row_next rb1 hb6
 refine l_box f rfl rfl rfl rfl rfl ?_; clear f A; intro b7 W8 eb7 hb9 rb7 A f; dsimp only [Value.cells] at rb7
 have o_b1_b7 : b1 < b7 := by have := row_lt rb1; omega
 have o_b4_b7 : b4 < b7 := by have := row_lt rb4; omega
 have z_B0_b7 := B0.size; rw [eb7] at z_B0_b7
 replace B0 := Below.next B0 hb9; replace rb1 := row_next rb1 hb9; replace rb4 := row_next rb4 hb9
 refine l_do f rfl rfl rfl (y_assign rfl rfl) ?_; clear f A; intro A f
 refine l_do f rfl rfl rfl (y_assign rfl rfl) ?_; clear f A; intro A f
 refine wpList_nil ?_
 refine x_tn ?_
 refine wp_seq ?_
 refine sx_list ?_
 refine l_do f rfl rfl rfl (y_field rfl rfl (fo rfl)) ?_; clear f A; intro A f
 refine l_do f rfl rfl rfl (y_load1 rfl rfl (ag rfl) (rowl (rowq rb1) rfl)) ?_; clear f A; intro A f
 refine l_do f rfl rfl rfl (y_field rfl rfl (fo rfl)) ?_; clear f A; intro A f
 refine l_do f rfl rfl rfl (y_load1 rfl rfl (ag rfl) (rowl (rowq rb7) rfl)) ?_; clear f A; intro A f
 refine l_do f rfl rfl rfl (y_field rfl rfl (fo rfl)) ?_; clear f A; intro A f
 refine l_do f rfl rfl rfl (y_load1 rfl rfl (ag rfl) (rowl (rowq rb4) rfl)) ?_; clear f A; intro A f
 refine l_call f rfl rfl rfl (IsCall.mk' (cap := []) rfl rfl rfl) (pl rfl) (followOf_any _ x.wo x.wn x.wc b.t c.c.per x.words hx.words.len hx.words.reach (by omega) (hx.words.below B0).at_) ?_
 clear f A; rintro _ W10 ⟨⟨lo, ln, lc, er, rfl, hcase⟩, hb11⟩; refine ⟨_, rfl, ?_⟩; intro A f; replace B0 := Below.next B0 hb11; replace rb1 := row_next rb1 hb11; replace rb4 := row_next rb4 hb11; replace rb7 := row_next rb7 hb11
 have hln : ln * 8 ≤ 140737488351232 := by rcases hcase with ⟨_, h, _⟩ | ⟨_, _, h, _⟩; (omega); (exact h.reach)
 refine l_do f rfl rfl rfl (y_move rfl rfl) ?_; clear f A; intro A f
 refine l_do f rfl rfl rfl (y_ext rfl rfl rfl) ?_; clear f A; intro A f
 refine l_do f rfl rfl rfl (y_ext rfl rfl rfl) ?_; clear f A; intro A f
 refine l_do f rfl rfl rfl (y_assign rfl rfl) ?_; clear f A; intro A f
 refine l_do f rfl rfl rfl (y_assign rfl rfl) ?_; clear f A; intro A f
 refine wpList_nil ?_
 refine x_tn ?_
 refine wp_seq ?_
 refine wp_seq ?_
 refine sx_list ?_
 refine l_do f rfl rfl rfl (y_move rfl rfl) ?_; clear f A; intro A f
 refine l_if _ f rfl rfl rfl (y_neq rfl rfl rfl) ?_ ?_
 ·clear f A; intro c12 A f
  refine l_do f rfl rfl rfl (y_move rfl rfl) ?_; clear f A; intro A f
  refine l_no f rfl rfl rfl ?_; clear f A; intro A f
  refine l_no f rfl rfl rfl ?_; clear f A; intro A f
  refine l_no f rfl rfl rfl ?_; clear f A; intro A f
  refine l_no f rfl rfl rfl ?_; clear f A; intro A f
  refine l_no f rfl rfl rfl ?_; clear f A; intro A f
  refine l_do f rfl rfl rfl (y_pick rfl rfl rfl) ?_; clear f A; intro A f
  refine wpList_nil ?_
  refine x_tn ?_
  refine x_condT f rfl ?_
  refine wp_seq ?_
  refine sx_list ?_
  refine l_do f rfl rfl rfl (y_assign rfl rfl) ?_; clear f A; intro A f
  refine l_do f rfl rfl rfl (y_assign rfl rfl) ?_; clear f A; intro A f
  refine wpList_nil ?_
  refine x_tn ?_
  refine wp_ret ?_
  refine x_tr ?_
  refine x_ret2 f rfl rfl rfl ?_
  refine ⟨⟨_, _, _, _, rfl, .inr ⟨rfl, rfl, fun h => ?_⟩⟩, B0⟩
  obtain ⟨l, h1, h2, h3, h4⟩ := chainOk_to hs.1 hm.2.2.1 h
  rcases hcase with ⟨_, _, hn⟩ | ⟨l2, he, _⟩
  ·exact hn l h1 h4
  ·omega
 ·clear f A; intro c12 A f
  refine l_do f rfl rfl rfl (y_move rfl rfl) ?_; clear f A; intro A f
  refine l_do f rfl rfl rfl (y_move rfl rfl) ?_; clear f A; intro A f
  refine l_do f rfl rfl rfl (y_len rfl rfl (sl rfl)) ?_; clear f A; intro A f
  refine l_do f rfl rfl rfl (y_field rfl rfl (fo rfl)) ?_; clear f A; intro A f
  refine l_do f rfl rfl rfl (y_load1 rfl rfl (ag rfl) (rowl (rowq rb7) rfl)) ?_; clear f A; intro A f
  refine l_if _ f rfl rfl rfl (y_neq rfl rfl rfl) ?_ ?_
  ·clear f A; intro c13 A f
   refine l_do f rfl rfl rfl (y_pick rfl rfl rfl) ?_; clear f A; intro A f
   refine wpList_nil ?_
   refine x_tn ?_
   refine x_condT f rfl ?_
   refine wp_seq ?_
   refine sx_list ?_
   refine l_do f rfl rfl rfl (y_assign rfl rfl) ?_; clear f A; intro A f
   refine l_do f rfl rfl rfl (y_assign rfl rfl) ?_; clear f A; intro A f
   refine wpList_nil ?_
   refine x_tn ?_
   refine wp_ret ?_
   refine x_tr ?_
   refine x_ret2 f rfl rfl rfl ?_
   refine ⟨⟨_, _, _, _, rfl, .inr ⟨rfl, rfl, fun h => ?_⟩⟩, B0⟩
   obtain ⟨l, h1, h2, h3, h4⟩ := chainOk_to hs.1 hm.2.2.1 h
   rcases hcase with ⟨_, _, hn⟩ | ⟨l2, he, hL, hch, hlm⟩
   ·exact hn l h1 h4
   ·have := hL.len; have := hch.det _ h1; subst this; omega
  ·clear f A; intro c13 A f
   refine l_do f rfl rfl rfl (y_pick rfl rfl rfl) ?_; clear f A; intro A f
   refine wpList_nil ?_
   refine x_tn ?_
   refine x_condF f rfl ?_
   refine wp_skip ?_
   refine x_tn ?_
   refine wp_seq ?_
   refine wp_seq ?_
   refine sx_list ?_
   refine l_do f rfl rfl rfl (y_assign rfl rfl) ?_; clear f A; intro A f
   refine wpList_nil ?_
   refine x_tn ?_
   refine wp_block ?_
   rcases hcase with ⟨he, _⟩ | ⟨l, he, hL, hch, hlm⟩
   ·exfalso; omega
   have hll := hL.len
   refine x_loop (fun n A W => ∃ k : Nat, n = ln - k ∧ k ≤ ln ∧ Fr A 46 [(4, .pointer (some ⟨b4, 0, none⟩)), (5, .pointer (some ⟨b7, 0, none⟩)), (8, .slice lo ln lc), (10, .int .i64 (k : Nat))] ∧ Below w.heap.size w W ∧ W.heap[b4]? = some (.cells #[.slice c.no c.nn c.nc, .int .i64 c.c.size, .int .i64 c.c.per, .int .i64 c.c.order, .slice c.so c.sn c.sc, .slice c.ao c.an c.ac] 45 (0, 0)) ∧ W.heap[b7]? = some (.cells #[.int .i64 b.a, .int .i64 b.o, .int .i64 b.t] 49 (0, 0)) ∧ Nums W lo ln l ∧ ∀ j, j < k → objAt c.c b (l.getD j 0)) (n0 := ln) (⟨0, rfl, Nat.zero_le _, f.sub ⟨rfl, rfl, rfl, rfl, trivial⟩, B0, rb4, rb7, hL, fun i hi => absurd hi (Nat.not_lt_zero i)⟩) ?_
   clear f A
   clear B0 hL rb4 rb7
   rintro n A W14 ⟨k, hn, hk, f, B0, rb4, rb7, hL, hd⟩
   have BW := Below.refl W14.heap.size W14
   refine wp_seq ?_
   refine wp_seq ?_
   refine sx_list ?_
   refine l_do f rfl rfl rfl (y_move rfl rfl) ?_; clear f A; intro A f
   refine l_do f rfl rfl rfl (y_move rfl rfl) ?_; clear f A; intro A f
   refine l_do f rfl rfl rfl (y_len rfl rfl (sl rfl)) ?_; clear f A; intro A f
   refine l_if _ f rfl rfl rfl (y_lss rfl rfl rfl) ?_ ?_
   ·clear f A; intro c15 A f
    refine wpList_nil ?_
    refine x_tn ?_
    refine x_condT f rfl ?_
    refine wp_skip ?_
    refine x_tn ?_
    refine wp_seq ?_
    refine wp_block ?_
    refine wp_seq ?_
    refine sx_quiet (by kernel_rfl) (by kernel_rfl) ?_
    refine q_do f rfl rfl rfl (y_loadN (vs := [_, _, _, _, _, _]) rfl rfl (ag rfl) rfl (rowls (rowq rb4) _ _ ⟨rfl, rfl, rfl, rfl, rfl, rfl, trivial⟩)) ?_; clear f A; intro A f
    refine q_do f rfl rfl rfl (y_field rfl rfl (fo rfl)) ?_; clear f A; intro A f
    refine q_do f rfl rfl rfl (y_load1 rfl rfl (ag rfl) (rowl (rowq rb7) rfl)) ?_; clear f A; intro A f
    refine q_do f rfl rfl rfl (y_move rfl rfl) ?_; clear f A; intro A f
    refine q_do f rfl rfl rfl (y_move rfl rfl) ?_; clear f A; intro A f
    obtain ⟨gv, ov, vv, hav, c0v, hXv⟩ := hL.at_.at (k) (by have := hL.len; omega)
    replace c0v := St.of c0v
    rw [show ov + k = ov + k * 1 by omega] at c0v
    refine q_do f rfl rfl rfl (y_index rfl rfl (by first | rfl | assumption) rfl (es rfl) (by omega)) ?_; clear f A; intro A f
    refine q_do f rfl rfl rfl (y_load1 rfl rfl (ag rfl) (by first | assumption | exact St.q c0v BW)) ?_; clear f A; intro A f
    have inst := Classical.propDecidable (objAt c.c b vv)
    refine q_callif (objAt c.c b vv) f rfl rfl rfl (IsCall.mk' (cap := []) rfl rfl rfl) (pl rfl) (c_cl fun wx => retB_dec (refIsObj_any wx c b b.a vv rfl hs hp ha)) ?_ ?_
    ·clear f A; intro c16 A f
     refine q_do f rfl rfl rfl (y_not rfl rfl) ?_; clear f A; intro A f
     refine wpQuiet_nil ?_; intro W18 hb17; replace B0 := Below.next B0 hb17; replace hL := hL.below hb17; replace BW := Below.next BW hb17; replace rb4 := row_next rb4 hb17; replace rb7 := row_next rb7 hb17
     refine x_tn ?_
     refine x_condF f rfl ?_
     refine wp_skip ?_
     refine x_bn ?_
     refine x_tn ?_
     refine sx_list ?_
     refine l_do f rfl rfl rfl (y_move rfl rfl) ?_; clear f A; intro A f
     refine l_do f rfl rfl rfl (y_add rfl rfl rfl rfl (by omega)) ?_; clear f A; intro A f
     refine l_do f rfl rfl rfl (y_assign rfl rfl) ?_; clear f A; intro A f
     refine wpList_nil ?_
     refine x_tn ?_
     exact ⟨ln - (k + 1), by omega, k + 1, rfl, by omega, f.sub ⟨rfl, rfl, rfl, rfl, trivial⟩, B0, rb4, rb7, hL, fun i hi => by by_cases e : i = k; (subst e; rw [hXv.out]; exact c16); exact hd i (by omega)⟩
    ·clear f A; intro c16 A f
     refine q_do f rfl rfl rfl (y_not rfl rfl) ?_; clear f A; intro A f
     refine wpQuiet_nil ?_; intro W20 hb19; replace B0 := Below.next B0 hb19; replace hL := hL.below hb19; replace BW := Below.next BW hb19; replace rb4 := row_next rb4 hb19; replace rb7 := row_next rb7 hb19
     refine x_tn ?_
     refine x_condT f rfl ?_
     refine wp_seq ?_
     refine sx_list ?_
     refine l_do f rfl rfl rfl (y_assign rfl rfl) ?_; clear f A; intro A f
     refine l_do f rfl rfl rfl (y_assign rfl rfl) ?_; clear f A; intro A f
     refine wpList_nil ?_
     refine x_tn ?_
     refine wp_ret ?_
     refine x_br ?_
     refine x_tr ?_
     refine x_tr ?_
     refine x_br ?_
     refine x_tr ?_
     refine x_ret2 f rfl rfl rfl ?_
     refine ⟨⟨_, _, _, _, rfl, .inr ⟨rfl, rfl, fun h => ?_⟩⟩, B0⟩
     obtain ⟨l2, h1, h2, h3, h4⟩ := chainOk_to hs.1 hm.2.2.1 h
     have := hch.det _ h1
     subst this
     exact c16 (by rw [← hXv.out]; exact h3 _ (getD_mem (d := (0 : Int)) (by omega)))
   ·clear f A; intro c15 A f
    refine wpList_nil ?_
    refine x_tn ?_
    refine x_condF f rfl ?_
    refine wp_exit ?_
    refine x_te ?_
    refine x_te ?_
    refine x_bh ?_
    refine x_tn ?_
    refine wp_seq ?_
    refine sx_list ?_
    refine l_do f rfl rfl rfl (y_move rfl rfl) ?_; clear f A; intro A f
    refine l_do f rfl rfl rfl (y_assign rfl rfl) ?_; clear f A; intro A f
    refine l_do f rfl rfl rfl (y_assign rfl rfl) ?_; clear f A; intro A f
    refine wpList_nil ?_
    refine x_tn ?_
    refine wp_ret ?_
    refine x_ret2 f rfl rfl rfl ?_
    have hke : k = ln := by omega
    exact ⟨⟨_, _, _, _, rfl, .inl ⟨rfl, l, hL, hch, by omega, fun y hy => by obtain ⟨j, hj, rfl⟩ := List.getElem_of_mem hy; have := hd j (by omega); rwa [List.getD_eq_getElem?_getD, List.getElem?_eq_getElem hj] at this⟩⟩, B0⟩
def liveO : List Bk → Int → Int
 | [], _ => -1
 | b :: l, a => if b.a = a then b.o else liveO l a
def slabI : List Bk → Int → Int
 | [], _ => -1
 | b :: l, a => if b.a = a then 0 else if slabI l a = -1 then -1 else slabI l a + 1
theorem liveO_hit {a : Int} : ∀ {l : List Bk} {k : Nat}, k < l.length → (l.getD k .zero).a = a → (∀ j, j < k → ¬ (l.getD j .zero).a = a) → liveO l a = (l.getD k .zero).o
 | [], k, h, _, _ => by simp at h
 | b :: l, 0, _, h, _ => by
  have h : b.a = a := h
  unfold liveO
  rw [if_pos h]
  rfl
 | b :: l, k + 1, h, h1, h2 => by
  have h0 : ¬ b.a = a := h2 0 (Nat.succ_pos k)
  unfold liveO
  rw [if_neg h0]
  exact liveO_hit (l := l) (k := k) (by simpa using h) h1 (fun j hj => h2 (j + 1) (by omega))
theorem liveO_miss {a : Int} : ∀ {l : List Bk}, (∀ j, j < l.length → ¬ (l.getD j .zero).a = a) → liveO l a = -1
 | [], _ => rfl
 | b :: l, h => by
  have h0 : ¬ b.a = a := h 0 (Nat.succ_pos _)
  unfold liveO
  rw [if_neg h0]
  exact liveO_miss (l := l) (fun j hj => h (j + 1) (by simpa using hj))
theorem slabI_hit {a : Int} : ∀ {l : List Bk} {k : Nat}, k < l.length → (l.getD k .zero).a = a → (∀ j, j < k → ¬ (l.getD j .zero).a = a) → slabI l a = (k : Nat)
 | [], k, h, _, _ => by simp at h
 | b :: l, 0, _, h, _ => by
  have h : b.a = a := h
  unfold slabI
  rw [if_pos h]
  rfl
 | b :: l, k + 1, h, h1, h2 => by
  have h0 : ¬ b.a = a := h2 0 (Nat.succ_pos k)
  have ih := slabI_hit (l := l) (k := k) (by simpa using h) h1 (fun j hj => h2 (j + 1) (by omega))
  unfold slabI
  rw [if_neg h0, ih, if_neg (by omega)]
  omega
theorem slabI_miss {a : Int} : ∀ {l : List Bk}, (∀ j, j < l.length → ¬ (l.getD j .zero).a = a) → slabI l a = -1
 | [], _ => rfl
 | b :: l, h => by
  have h0 : ¬ b.a = a := h 0 (Nat.succ_pos _)
  unfold slabI
  rw [if_neg h0, if_pos (slabI_miss (l := l) (fun j hj => h (j + 1) (by simpa using hj)))]
theorem slabI_iff {a : Int} : ∀ {l : List Bk}, slabI l a < 0 ↔ ¬ ∃ b ∈ l, b.a = a
 | [] => ⟨fun _ h => (by obtain ⟨b, h, _⟩ := h; cases h), fun _ => (show (-1 : Int) < 0 by omega)⟩
 | b :: l => by
  have ih := slabI_iff (a := a) (l := l)
  unfold slabI
  by_cases h : b.a = a
  ·rw [if_pos h]
   exact ⟨fun h => by omega, fun hn => absurd ⟨b, List.mem_cons.2 (.inl rfl), h⟩ hn⟩
  ·rw [if_neg h]
   have hge : ∀ l, -1 ≤ slabI l a := fun l => by
    induction l with
    | nil => unfold slabI; omega
    | cons c l ih => unfold slabI; split; (omega); split <;> omega
   have := hge l
   constructor
   ·intro h1 ⟨c, hc, hca⟩
    rcases List.mem_cons.1 hc with rfl | hc
    ·exact h hca
    ·exact ih.1 (by split at h1 <;> omega) ⟨c, hc, hca⟩
   ·intro h1
    have h2 := ih.2 (fun ⟨c, hc, hca⟩ => h1 ⟨c, List.mem_cons.2 (.inr hc), hca⟩)
    rw [if_pos (by omega)]
    omega
theorem liveO_iff {l : List Bk} {a o : Int} (h : LvsOk l) (ho : 0 ≤ o) : liveO l a = o ↔ ∃ v ∈ l, v.a = a ∧ v.o = o := by
 by_cases hx : ∃ k, k < l.length ∧ (l.getD k .zero).a = a
 ·obtain ⟨k, hk, ha⟩ := hx
  have hn : ∀ j, j < k → ¬ (l.getD j .zero).a = a := fun j hj e => by
   have := live_one h (show j < l.length by omega) hk (e.trans ha.symm)
   omega
  rw [liveO_hit hk ha hn]
  exact live_hit h hk (a := (l.getD k .zero).a) (t := (l.getD k .zero).t) rfl ha
 ·have hm := liveO_miss (l := l) (a := a) (fun j hj e => hx ⟨j, hj, e⟩)
  rw [hm]
  refine ⟨fun e => by omega, ?_⟩
  rintro ⟨v, hv, h1, h2⟩
  obtain ⟨i, hi, rfl⟩ := List.getElem_of_mem hv
  exact absurd ⟨i, hi, by rw [List.getD_eq_getElem?_getD, List.getElem?_eq_getElem hi]; exact h1⟩ hx
theorem slabAt_c (w : World) (c : Cc) (a : Int) (hc : Blks w c.so c.sn c.c.slabs) :
    Calls Try.prog 44 #[.agg #[.slice c.no c.nn c.nc, .int .i64 c.c.size, .int .i64 c.c.per, .int .i64 c.c.order, .slice c.so c.sn c.sc, .slice c.ao c.an c.ac], .int .i64 a] w fun e w' => e = .returned (.int .i64 (slabI c.c.slabs a)) ∧ Below w.heap.size w w' := by
 refine (refSlabAt_any w c a hc).mono ?_
 rintro e w' ⟨h, hb⟩
 refine ⟨?_, hb⟩
 have hl := hc.len
 rcases h with ⟨k, hk, rfl, h1, h2⟩ | ⟨rfl, h1⟩
 ·rw [slabI_hit (by omega) h1 h2]
 ·rw [slabI_miss (fun j hj => h1 j (by omega))]
theorem liveOrder_c (w : World) (x : Hx) (a : Int) (hx : x.At w) :
    Calls Try.prog 43 #[.agg #[.slice x.zo x.zn x.zc, .slice x.mo x.mn x.mc, .int .i64 x.cpus, .slice x.lo x.ln x.lc, .slice x.vo x.vn x.vc], .int .i64 a] w fun e w' => e = .returned (.int .i64 (liveO x.hp.live a)) ∧ Below w.heap.size w w' := by
 refine (liveOrder_any w x a hx).mono ?_
 rintro e w' ⟨h, hb⟩
 refine ⟨?_, hb⟩
 have hl := hx.live.len
 show e = .returned (.int .i64 (liveO x.live a))
 rcases h with ⟨k, hk, rfl, h1, h2⟩ | ⟨rfl, h1⟩
 ·rw [liveO_hit (by omega) h1 h2]
 ·rw [liveO_miss (fun j hj => h1 j (by omega))]
end Go.Proofs.Ytnijjpakpphhhaa
namespace Go.Proofs.Ytnijjpakpphhhaa.Kit
open Go Go.RowKit Go.Maps
def MapK (P : Program) (w : World) (kt et b n : Nat) (S : Lit → Prop) : Prop := ∃ D : DataW Unit, w.ownsMap P kt (plainElem P et) b n D ∧ IsMap D ∧ ∀ kl, has D kl = true ↔ S kl
structure MapT (P : Program) (t kt et : Nat) : Prop where
 m : P.underlying t = some (.map kt et)
 k : Keyed P kt
 e : P.underlying et = some (.int .i64)
 z : ∀ w, (zeroValue et).run P w = .ok (.int .i64 0) w
section
variable {P : Program} {A : Act} {N : Nat} {L : List (Nat × Value)} {l rest : List Oper} {o : Oper} {w : World} {Q : Exit → Act → World → Prop}
theorem MapK.below {w' : World} {kt et b n : Nat} {S : Lit → Prop} (h : MapK P w kt et b n S) (hb : Below w.heap.size w w') : MapK P w' kt et b n S := by
 obtain ⟨D, h1, h2⟩ := h
 exact ⟨D, h1.kept (row := none) ⟨hb.os, hb.tape, hb.output, hb.size, fun i hi _ => hb.block i hi⟩ (by simp), h2⟩
theorem MapK.but {w' : World} {kt et b c n : Nat} {S : Lit → Prop} (h : MapK P w kt et b n S) (hb : But c w w') (hne : b ≠ c) : MapK P w' kt et b n S := by
 obtain ⟨D, h1, h2⟩ := h
 exact ⟨D, h1.kept (row := some c) ⟨hb.os, hb.tape, hb.output, hb.size, fun i hi h => hb.block i hi (fun e => h (by rw [e]))⟩ (by simpa using hne), h2⟩
theorem MapK.lt {kt et b n : Nat} {S : Lit → Prop} (h : MapK P w kt et b n S) : b < w.heap.size := by obtain ⟨D, h1, _⟩ := h; exact h1.lt
theorem MapK.iff {kt et b n : Nat} {S T : Lit → Prop} (h : MapK P w kt et b n S) (e : ∀ k, S k ↔ T k) : MapK P w kt et b n T := by
 obtain ⟨D, h1, h2, h3⟩ := h
 exact ⟨D, h1, h2, fun k => (h3 k).trans (e k)⟩
theorem l_mkMap {d : Nat} {t : TypeId} (f : Fr A N L) (hd : o.dst = some d) (hN : Nat.blt d N = true) (hw : wantB l L o = some true) (ho : o.op = .makeMap t none)
    (h : ∀ b W, w.heap.size = b → Below w.heap.size w W → b < W.heap.size → (∀ kt et, MapK P W kt et b 0 (fun _ => False)) → ∀ A', Fr A' N ((d, .map (some b)) :: L) → wpList P l.toArray Q rest A' W) : wpList P l.toArray Q (o :: rest) A w := by
 refine l_opR (R := fun v W => v = .map (some w.heap.size) ∧ W = w.alloc (.map #[] 0)) f hd hN hw ⟨_, _, ?_, rfl, rfl⟩ ?_
 ·simp [execOp, ho, run_makeMap]
 ·rintro v W ⟨rfl, rfl⟩ A' f'
  exact h _ _ rfl ((Below.refl _ _).alloc (Nat.le_refl _) _) (by show _ < (Array.push _ _).size; simp) (fun kt et => ⟨.map [], World.ownsMap_made _ _ _ _, isMap_empty, fun kl => by simp [has]⟩) A' f'
theorem l_look {d : Nat} {t kt et : TypeId} {m x : Operand} {b n : Nat} {κ : Value} {kl : Lit} {S : Lit → Prop} [hdec : Decidable (S kl)] (f : Fr A N L) (hd : o.dst = some d) (hN : Nat.blt d N = true) (hw : wantB l L o = some true) (ho : o.op = .lookup t m x true) (hm : ev L m = some (.map (some b))) (hx : ev L x = some κ)
    (hT : MapT P t kt et) (hk : keyOf P kt κ = some kl) (hM : MapK P w kt et b n S) (h : ∀ v, ∀ A', Fr A' N ((d, .tuple #[.int .i64 v, .bool (decide (S kl))]) :: L) → wpList P l.toArray Q rest A' w) : wpList P l.toArray Q (o :: rest) A w := by
 obtain ⟨D, h1, _, h3⟩ := hM
 obtain ⟨v, ps, hrun, hv⟩ := h1.look_ok hT.k hT.m (hT.z w) (plainElem_int hT.e rfl) hk
 obtain ⟨a, rfl, _⟩ := plainElem_int_inv hT.e hv
 have e1 := f.ev hm
 have e2 := f.ev hx
 have eb : has D kl = decide (S kl) := by
  by_cases hs : S kl
  ·rw [decide_eq_true hs]; exact (h3 kl).2 hs
  ·rw [decide_eq_false hs]
   cases hh : has D kl with
   | false => rfl
   | true => exact absurd ((h3 kl).1 hh) hs
 rw [eb] at hrun
 refine l_opR (R := fun u W => u = .tuple #[.int .i64 a, .bool (decide (S kl))] ∧ W = w) f hd hN hw ⟨_, _, ?_, rfl, rfl⟩ ?_
 ·obtain ⟨ρ, hρ⟩ : ∃ ρ, A.eval = ρ := ⟨_, rfl⟩
  rw [hρ] at e1 e2 ⊢
  unfold execOp
  rw [ho]
  simp only [e1, e2]
  simp [hrun]
 ·rintro u W ⟨rfl, rfl⟩ A' f'
  exact h a A' f'
theorem l_lookB {d : Nat} {t kt et : TypeId} {m x : Operand} {b n : Nat} {κ : Value} {kl : Lit} {S : Lit → Prop} (f : Fr A N L) (hd : o.dst = some d) (hN : Nat.blt d N = true) (hw : wantB l L o = some true) (ho : o.op = .lookup t m x true) (hm : ev L m = some (.map (some b))) (hx : ev L x = some κ)
    (hT : MapT P t kt et) (hk : keyOf P kt κ = some kl) (hM : MapK P w kt et b n S) (ht : S kl → ∀ v, ∀ A', Fr A' N ((d, .tuple #[.int .i64 v, .bool true]) :: L) → wpList P l.toArray Q rest A' w) (hf : ¬ S kl → ∀ v, ∀ A', Fr A' N ((d, .tuple #[.int .i64 v, .bool false]) :: L) → wpList P l.toArray Q rest A' w) : wpList P l.toArray Q (o :: rest) A w := by
 refine l_look (hdec := Classical.propDecidable _) f hd hN hw ho hm hx hT hk hM fun v A' f' => ?_
 by_cases hs : S kl
 ·rw [@decide_eq_true _ (Classical.propDecidable _) hs] at f'; exact ht hs v A' f'
 ·rw [@decide_eq_false _ (Classical.propDecidable _) hs] at f'; exact hf hs v A' f'
def keysI (xs : List Int) : Lit → Prop := fun k => ∃ v ∈ xs, k = .int .i64 v
def keysS (xs : List ByteArray) : Lit → Prop := fun k => ∃ s ∈ xs, k = .string s.data.toList
theorem keysI_nil (k : Lit) : False ↔ keysI [] k := ⟨fun h => h.elim, fun ⟨v, h, _⟩ => by cases h⟩
theorem keysS_nil (k : Lit) : False ↔ keysS [] k := ⟨fun h => h.elim, fun ⟨v, h, _⟩ => by cases h⟩
theorem keysI_at {xs : List Int} {v : Int} : keysI xs (.int .i64 v) ↔ v ∈ xs := ⟨fun ⟨u, h, e⟩ => (by cases e; exact h), fun h => ⟨v, h, rfl⟩⟩
theorem keysS_at {xs : List ByteArray} {s : ByteArray} : keysS xs (.string s.data.toList) ↔ s ∈ xs := by
 refine ⟨fun ⟨u, h, e⟩ => ?_, fun h => ⟨s, h, rfl⟩⟩
 have e2 : s.data.toList = u.data.toList := by injection e
 have : s = u := by
  cases s; cases u
  congr 1
  exact Array.toList_inj.1 e2
 rwa [this]
theorem keysI_put {xs : List Int} {v : Int} (k : Lit) : (keysI xs k ∨ k = .int .i64 v) ↔ keysI (xs ++ [v]) k := by
 constructor
 ·rintro (⟨u, h, e⟩ | e)
  ·exact ⟨u, by simp [h], e⟩
  ·exact ⟨v, by simp, e⟩
 ·rintro ⟨u, h, e⟩
  rcases List.mem_append.1 h with h | h
  ·exact .inl ⟨u, h, e⟩
  ·rw [List.mem_singleton] at h; subst h; exact .inr e
theorem keysS_put {xs : List ByteArray} {v : ByteArray} (k : Lit) : (keysS xs k ∨ k = .string v.data.toList) ↔ keysS (xs ++ [v]) k := by
 constructor
 ·rintro (⟨u, h, e⟩ | e)
  ·exact ⟨u, by simp [h], e⟩
  ·exact ⟨v, by simp, e⟩
 ·rintro ⟨u, h, e⟩
  rcases List.mem_append.1 h with h | h
  ·exact .inl ⟨u, h, e⟩
  ·rw [List.mem_singleton] at h; subst h; exact .inr e
theorem l_put {t kt et : TypeId} {m x y : Operand} {b n : Nat} {κ : Value} {kl : Lit} {a : Int} {S : Lit → Prop} (f : Fr A N L) (hd : o.dst = none) (hw : wantB l L o = some true) (ho : o.op = .mapUpdate t m x y) (hm : ev L m = some (.map (some b))) (hx : ev L x = some κ) (hy : ev L y = some (.int .i64 a))
    (hT : MapT P t kt et) (hk : keyOf P kt κ = some kl) (hkl : WideAt.IsKeyLit kl) (ha : (Lit.int .i64 a).wf = true) (hn : n < maxLen) (hM : MapK P w kt et b n S) (h : ∀ W, But b w W → MapK P W kt et b (n + 1) (fun k => S k ∨ k = kl) → wpList P l.toArray Q rest A W) : wpList P l.toArray Q (o :: rest) A w := by
 obtain ⟨D, h1, h2, h3⟩ := hM
 obtain ⟨W, hrun, hW, ht⟩ := h1.store hT.k hT.m hn hk (plainElem_int hT.e ha)
 have e1 := f.ev hm
 have e2 := f.ev hx
 have e3 := f.ev hy
 have hg := ht.grown
 have hex : (execOp A.eval o).run P w = .ok .skip W := by
  obtain ⟨ρ, hρ⟩ : ∃ ρ, A.eval = ρ := ⟨_, rfl⟩
  rw [hρ] at e1 e2 e3 ⊢
  unfold execOp
  rw [ho]
  simp only [e1, e2, e3]
  simp [hrun]
 unfold wpList
 rw [if_pos (f.wanted hw)]
 left
 unfold Oper.wp
 rw [hex, Oper.upon_skip, hd]
 refine h W ⟨hg.os, hg.tape, hg.output, hg.size, fun k hk hne => hg.block k hk (fun e => hne (by cases e; rfl))⟩ ⟨_, hW, h2.put _ _, fun k => ?_⟩
 by_cases e : k = kl
 ·subst e
  exact ⟨fun _ => .inr rfl, fun _ => has_put_same h2 hkl _⟩
 ·rw [has_put_other e, h3]
  exact ⟨.inl, fun h => h.elim id (fun h => absurd h e)⟩
end
end Go.Proofs.Ytnijjpakpphhhaa.Kit
namespace Go.Proofs.Ytnijjpakpphhhaa
open Go Go.RowKit Go.Proofs.Ytnijjpakpphhhaa.Kit
theorem mapT_II : MapT Try.prog 66 3 3 := ⟨Try.underlying66, Maps.int_keyed Try.underlying3, Try.underlying3, fun _ => by kernel_rfl⟩
theorem mapT_SI : MapT Try.prog 64 9 3 := ⟨Try.underlying64, Maps.string_keyed Try.underlying9, Try.underlying3, fun _ => by kernel_rfl⟩
def actKeys (l : List Int) (k : Nat) : Lit → Prop := fun kl => ∃ i, i < k ∧ l.getD i 0 ≠ -1 ∧ kl = .int .i64 (l.getD i 0)
def ActTo (c : Ch) (k : Nat) : Prop := ∀ i, i < k → c.act.getD i 0 ≠ -1 → (∃ b ∈ c.slabs, b.a = c.act.getD i 0) ∧ ∀ j, j < i → c.act.getD j 0 ≠ c.act.getD i 0
theorem keys_skip {l : List Int} {k : Nat} {v : Int} {kl : Lit} (h : l.getD k 0 = v) (e : v = -1) : actKeys l k kl ↔ actKeys l (k + 1) kl := by
 constructor
 ·rintro ⟨i, hi, h1, h2⟩; exact ⟨i, by omega, h1, h2⟩
 ·rintro ⟨i, hi, h1, h2⟩
  by_cases e2 : i = k
  ·subst e2; exact absurd (h.trans e) h1
  ·exact ⟨i, by omega, h1, h2⟩
theorem act_skip {c : Ch} {k : Nat} {v : Int} (h : c.act.getD k 0 = v) (e : v = -1) (hd : ActTo c k) : ActTo c (k + 1) := by
 intro i hi h1
 by_cases e2 : i = k
 ·subst e2; exact absurd (h.trans e) h1
 ·exact hd i (by omega) h1
theorem keys_put {l : List Int} {k : Nat} {v : Int} {kl : Lit} (h : l.getD k 0 = v) (e : ¬ v = -1) : (actKeys l k kl ∨ kl = .int .i64 v) ↔ actKeys l (k + 1) kl := by
 constructor
 ·rintro (⟨i, hi, h1, h2⟩ | rfl)
  ·exact ⟨i, by omega, h1, h2⟩
  ·exact ⟨k, by omega, by rw [h]; exact e, by rw [h]⟩
 ·rintro ⟨i, hi, h1, h2⟩
  by_cases e2 : i = k
  ·subst e2; exact .inr (by rw [h2, h])
  ·exact .inl ⟨i, by omega, h1, h2⟩
theorem act_put {c : Ch} {k : Nat} {v : Int} (h : c.act.getD k 0 = v) (hin : ∃ b ∈ c.slabs, b.a = v) (hno : ¬ actKeys c.act k (.int .i64 v)) (hd : ActTo c k) : ActTo c (k + 1) := by
 intro i hi h1
 by_cases e2 : i = k
 ·subst e2
  refine ⟨by rw [h]; exact hin, fun j hj e => hno ⟨j, hj, by rw [e]; exact h1, by rw [e, h]⟩⟩
 ·exact hd i (by omega) h1
theorem keys_twice {l : List Int} {k : Nat} {v : Int} (h : l.getD k 0 = v) (hk : actKeys l k (.int .i64 v)) (hn : ∀ j, j < k → l.getD j 0 ≠ l.getD k 0) : False := by
 obtain ⟨i, hi, h1, h2⟩ := hk
 injection h2 with _ h2
 exact hn i hi (by rw [h, h2])
theorem slabIn_of {l : List Bk} {n : Nat} {v : Int} (hl : l.length = n) (h : ∃ k, k < n ∧ (l.getD k .zero).a = v) : ∃ b ∈ l, b.a = v := by
 obtain ⟨k, hk, h⟩ := h
 exact ⟨_, getD_mem (d := Bk.zero) (show k < l.length by omega), h⟩
theorem slabIn_to {l : List Bk} {n : Nat} {v : Int} (hl : l.length = n) (h : ∃ b ∈ l, b.a = v) : ∃ k, k < n ∧ (l.getD k .zero).a = v := by
 obtain ⟨b, hb, h⟩ := h
 obtain ⟨i, hi, rfl⟩ := List.getElem_of_mem hb
 exact ⟨i, by omega, by rw [List.getD_eq_getElem?_getD, List.getElem?_eq_getElem hi]; exact h⟩
theorem slActF_any (w : World) (b : Bk) (v : Int) (q : Nat) (rq : w.heap[q]? = some (.cells #[.int .i64 v] 3 (0, 0))) :
    Calls Try.prog 86 #[slabV b, .pointer (some ⟨q, 0, none⟩)] w fun e w' => RetB e (b.a = v) ∧ Below w.heap.size w w' := by
 have B0 := Below.refl w.heap.size w
 refine sx_enter (args := [_, _]) 8 Try.func86 rfl rfl rfl ?_
 intro A f
 refine wp_seq ?_
 refine sx_list ?_
 refine l_box f rfl rfl rfl rfl rfl ?_; clear f A; intro b1 W2 eb1 hb3 rb1 A f; dsimp only [Value.cells] at rb1
 have o_q_b1 : q < b1 := by have := row_lt rq; omega
 have z_B0_b1 := B0.size; rw [eb1] at z_B0_b1
 replace B0 := Below.next B0 hb3; replace rq := row_next rq hb3
 refine l_do f rfl rfl rfl (y_assign rfl rfl) ?_; clear f A; intro A f
 refine wpList_nil ?_
 refine x_tn ?_
 refine wp_seq ?_
 refine sx_list ?_
 refine l_do f rfl rfl rfl (y_field rfl rfl (fo rfl)) ?_; clear f A; intro A f
 refine l_do f rfl rfl rfl (y_load1 rfl rfl (ag rfl) (rowl (rowq rb1) rfl)) ?_; clear f A; intro A f
 refine l_do f rfl rfl rfl (y_load1 rfl rfl (ag rfl) (rowl (rowq rq) rfl)) ?_; clear f A; intro A f
 refine l_if _ f rfl rfl rfl (y_eql rfl rfl rfl) ?_ ?_
 ·clear f A; intro c4 A f
  refine l_do f rfl rfl rfl (y_assign rfl rfl) ?_; clear f A; intro A f
  refine wpList_nil ?_
  refine x_tn ?_
  refine wp_ret ?_
  refine x_ret1 f rfl rfl ?_
  exact ⟨retB_true c4, B0⟩
 ·clear f A; intro c4 A f
  refine l_do f rfl rfl rfl (y_assign rfl rfl) ?_; clear f A; intro A f
  refine wpList_nil ?_
  refine x_tn ?_
  refine wp_ret ?_
  refine x_ret1 f rfl rfl ?_
  exact ⟨retB_false c4, B0⟩
theorem slActMay_any (w : World) (x : Sy) (c : Cc) (hc : c.At w) (hwf : ∀ v ∈ c.c.act, (Lit.int .i64 v).wf = true) :
    Calls Try.prog 64 #[.agg #[.slice x.wo x.wn x.wc, .slice x.h.zo x.h.zn x.h.zc, .slice x.h.mo x.h.mn x.h.mc, .int .i64 x.h.cpus, .slice x.h.lo x.h.ln x.h.lc, .slice x.h.vo x.h.vn x.h.vc, .slice x.co x.cn x.cc], .agg #[.slice c.no c.nn c.nc, .int .i64 c.c.size, .int .i64 c.c.per, .int .i64 c.c.order, .slice c.so c.sn c.sc, .slice c.ao c.an c.ac]] w fun e w' => RetB e (ActMay x.h.cpus c.c) ∧ Below w.heap.size w w' := by
 have B0 := Below.refl w.heap.size w
 refine sx_enter (args := [_, _]) 44 Try.func64 rfl rfl rfl ?_
 intro A f
 refine wp_seq ?_
 refine sx_list ?_
 refine l_box f rfl rfl rfl rfl rfl ?_; clear f A; intro b1 W2 eb1 hb3 rb1 A f; dsimp only [Value.cells] at rb1
 have z_B0_b1 := B0.size; rw [eb1] at z_B0_b1
 replace B0 := Below.next B0 hb3
 refine l_box f rfl rfl rfl rfl rfl ?_; clear f A; intro b4 W5 eb4 hb6 rb4 A f; dsimp only [Value.cells] at rb4
 have o_b1_b4 : b1 < b4 := by have := row_lt rb1; omega
 have z_B0_b4 := B0.size; rw [eb4] at z_B0_b4
 replace B0 := Below.next B0 hb6; replace rb1 := row_next rb1 hb6
 refine l_do f rfl rfl rfl (y_assign rfl rfl) ?_; clear f A; intro A f
 refine wpList_nil ?_
 refine x_tn ?_
 refine wp_seq ?_
 refine wp_seq ?_
 refine sx_list ?_
 refine l_do f rfl rfl rfl (y_field rfl rfl (fo rfl)) ?_; clear f A; intro A f
 refine l_do f rfl rfl rfl (y_load1 rfl rfl (ag rfl) (rowl (rowq rb4) rfl)) ?_; clear f A; intro A f
 refine l_do f rfl rfl rfl (y_len rfl rfl (sl rfl)) ?_; clear f A; intro A f
 refine l_do f rfl rfl rfl (y_field rfl rfl (fo rfl)) ?_; clear f A; intro A f
 refine l_do f rfl rfl rfl (y_field rfl rfl (fo rfl)) ?_; clear f A; intro A f
 refine l_do f rfl rfl rfl (y_load1 rfl rfl (ag rfl) (rowl (rowq rb1) rfl)) ?_; clear f A; intro A f
 refine l_if _ f rfl rfl rfl (y_neq rfl rfl rfl) ?_ ?_
 ·clear f A; intro c7 A f
  refine wpList_nil ?_
  refine x_tn ?_
  refine x_condT f rfl ?_
  refine wp_seq ?_
  refine sx_list ?_
  refine l_do f rfl rfl rfl (y_assign rfl rfl) ?_; clear f A; intro A f
  refine wpList_nil ?_
  refine x_tn ?_
  refine wp_ret ?_
  refine x_tr ?_
  refine x_ret1 f rfl rfl ?_
  exact ⟨retB_false (fun h => by have h1 := h.1; have h2 := hc.act.len; omega), B0⟩
 ·clear f A; intro c7 A f
  refine wpList_nil ?_
  refine x_tn ?_
  refine x_condF f rfl ?_
  refine wp_skip ?_
  refine x_tn ?_
  refine wp_seq ?_
  refine sx_list ?_
  refine l_mkMap f rfl rfl rfl rfl ?_; clear f A; intro b8 W9 eb8 hb10 ltb8 HM A f
  have z_B0_b8 := B0.size; rw [eb8] at z_B0_b8
  have o_b1_b8 : b1 < b8 := by have := row_lt rb1; omega
  have o_b4_b8 : b4 < b8 := by have := row_lt rb4; omega
  replace B0 := Below.next B0 hb10; replace rb1 := row_next rb1 hb10; replace rb4 := row_next rb4 hb10
  refine l_do f rfl rfl rfl (y_assign rfl rfl) ?_; clear f A; intro A f
  refine wpList_nil ?_
  refine x_tn ?_
  refine wp_seq ?_
  refine wp_seq ?_
  refine sx_list ?_
  refine l_do f rfl rfl rfl (y_field rfl rfl (fo rfl)) ?_; clear f A; intro A f
  refine l_do f rfl rfl rfl (y_load1 rfl rfl (ag rfl) (rowl (rowq rb4) rfl)) ?_; clear f A; intro A f
  refine l_do f rfl rfl rfl (y_len rfl rfl (sl rfl)) ?_; clear f A; intro A f
  refine l_do f rfl rfl rfl (y_move rfl rfl) ?_; clear f A; intro A f
  refine wpList_nil ?_
  refine x_tn ?_
  refine wp_block ?_
  have hal := hc.act.len
  have har := hc.act.reach
  replace HM : MapK Try.prog W9 3 3 b8 0 (actKeys c.c.act 0) := (HM _ _).iff (fun kl => ⟨fun h => h.elim, fun ⟨i, hi, _⟩ => absurd hi (Nat.not_lt_zero i)⟩)
  refine x_loop (fun n A W => ∃ k m : Nat, n = c.an - k ∧ k ≤ c.an ∧ m ≤ k ∧ Fr A 44 [(2, .pointer (some ⟨b1, 0, none⟩)), (3, .pointer (some ⟨b4, 0, none⟩)), (5, .map (some b8)), (19, .slice c.ao c.an c.ac), (20, .int .i64 (c.an : Nat)), (21, .int .i64 (k : Nat))] ∧ Below w.heap.size w W ∧ W.heap[b1]? = some (.cells #[.slice x.wo x.wn x.wc, .slice x.h.zo x.h.zn x.h.zc, .slice x.h.mo x.h.mn x.h.mc, .int .i64 x.h.cpus, .slice x.h.lo x.h.ln x.h.lc, .slice x.h.vo x.h.vn x.h.vc, .slice x.co x.cn x.cc] 30 (0, 0)) ∧ W.heap[b4]? = some (.cells #[.slice c.no c.nn c.nc, .int .i64 c.c.size, .int .i64 c.c.per, .int .i64 c.c.order, .slice c.so c.sn c.sc, .slice c.ao c.an c.ac] 45 (0, 0)) ∧ MapK Try.prog W 3 3 b8 m (actKeys c.c.act k) ∧ ActTo c.c k) (n0 := c.an) (⟨0, 0, rfl, Nat.zero_le _, Nat.le_refl _, f.sub ⟨rfl, rfl, rfl, rfl, rfl, rfl, trivial⟩, B0, rb1, rb4, HM, fun i hi => absurd hi (Nat.not_lt_zero i)⟩) ?_
  clear f A
  clear B0 HM rb1 rb4
  rintro n A W11 ⟨k, m, hn, hk, hm, f, B0, rb1, rb4, HM, hd⟩
  have oHM := HM.lt
  refine wp_seq ?_
  refine sx_list ?_
  refine l_if _ f rfl rfl rfl (y_lss rfl rfl rfl) ?_ ?_
  ·clear f A; intro c12 A f
   refine wpList_nil ?_
   refine x_tn ?_
   refine wp_seq ?_
   refine x_condT f rfl ?_
   refine wp_skip ?_
   refine x_tn ?_
   refine wp_seq ?_
   refine wp_block ?_
   refine wp_seq ?_
   refine sx_list ?_
   refine l_do f rfl rfl rfl (y_move rfl rfl) ?_; clear f A; intro A f
   obtain ⟨gv, ov, vv, hav, c0v, hXv⟩ := hc.act.at_.at (k) (by have := hc.act.len; omega)
   replace c0v := St.of c0v
   rw [show ov + k = ov + k * 1 by omega] at c0v
   have hwv : (Lit.int .i64 vv).wf = true := by rw [← hXv.out]; exact hwf _ (getD_mem (d := (0 : Int)) (by omega))
   refine l_do f rfl rfl rfl (y_index rfl rfl (by first | rfl | assumption) rfl (es rfl) (by omega)) ?_; clear f A; intro A f
   refine l_do f rfl rfl rfl (y_load1 rfl rfl (ag rfl) (by first | assumption | exact St.q c0v B0)) ?_; clear f A; intro A f
   refine l_alloc (z := .int .i64 0) f rfl rfl rfl rfl (by kernel_rfl) ?_; clear f A; intro b13 W14 eb13 hb15 rb13 A f; dsimp only [Value.cells] at rb13
   have o_b1_b13 : b1 < b13 := by have := row_lt rb1; omega
   have o_b4_b13 : b4 < b13 := by have := row_lt rb4; omega
   have z_B0_b13 := B0.size; rw [eb13] at z_B0_b13
   replace B0 := Below.next B0 hb15; replace rb1 := row_next rb1 hb15; replace rb4 := row_next rb4 hb15; replace HM := HM.below hb15
   refine l_do f rfl rfl rfl (y_assign rfl rfl) ?_; clear f A; intro A f
   refine l_store f rfl rfl rfl rfl rfl rb13 (sz rfl) rfl (Nat.le_of_ble_eq_true rfl) rfl ?_
   clear rb13; intro W16 hb17 rb13; dsimp only [setL, over, Value.cells] at rb13; replace B0 := Below.thenBut B0 hb17 (by omega); replace rb1 := But.row hb17 rb1 (by omega); replace rb4 := But.row hb17 rb4 (by omega); replace HM := MapK.but HM hb17 (by omega)
   refine wpList_nil ?_
   refine x_tn ?_
   refine wp_seq ?_
   refine wp_seq ?_
   refine sx_list ?_
   refine l_do f rfl rfl rfl (y_load1 rfl rfl (ag rfl) (rowl (rowq rb13) rfl)) ?_; clear f A; intro A f
   refine l_if _ f rfl rfl rfl (y_eql rfl rfl rfl) ?_ ?_
   ·clear f A; intro c18 A f
    refine wpList_nil ?_
    refine x_tn ?_
    refine x_condT f rfl ?_
    refine wp_exit ?_
    refine x_te ?_
    refine x_bh ?_
    refine x_tn ?_
    refine sx_list ?_
    refine l_do f rfl rfl rfl (y_add rfl rfl rfl rfl (by omega)) ?_; clear f A; intro A f
    refine l_do f rfl rfl rfl (y_move rfl rfl) ?_; clear f A; intro A f
    refine wpList_nil ?_
    refine x_tn ?_
    exact ⟨c.an - (k + 1), by omega, k + 1, m, rfl, by omega, by omega, f.sub ⟨rfl, rfl, rfl, rfl, rfl, rfl, trivial⟩, B0, rb1, rb4, HM.iff fun kl => keys_skip hXv.out c18, act_skip hXv.out c18 hd⟩
   ·clear f A; intro c18 A f
    refine wpList_nil ?_
    refine x_tn ?_
    refine x_condF f rfl ?_
    refine wp_skip ?_
    refine x_tn ?_
    refine wp_seq ?_
    refine wp_seq ?_
    refine sx_list ?_
    refine l_do f rfl rfl rfl (y_field rfl rfl (fo rfl)) ?_; clear f A; intro A f
    refine l_do f rfl rfl rfl (y_load1 rfl rfl (ag rfl) (rowl (rowq rb4) rfl)) ?_; clear f A; intro A f
    refine l_do f rfl rfl rfl (y_func rfl rfl) ?_; clear f A; intro A f
    have hcc := slabContains_any _ 86 [.pointer (some ⟨b13, 0, none⟩)] (pl rfl) c.so c.sn c.sc c.c.slabs (fun b => b.a = vv) (hc.slabs.below B0) (fun i hi W hW => slActF_any W (c.c.slabs.getD i .zero) vv b13 (row_next rb13 hW))
    refine l_callB _ f rfl rfl rfl (IsCall.mk' (cap := []) rfl rfl rfl) (pl rfl) hcc ?_ ?_
    ·clear f A; intro c19 W21 hb20 A f
     replace B0 := Below.next B0 hb20; replace rb1 := row_next rb1 hb20; replace rb4 := row_next rb4 hb20; replace rb13 := row_next rb13 hb20; replace HM := HM.below hb20
     have hin := slabIn_of hc.slabs.len c19
     refine l_do f rfl rfl rfl (y_not rfl rfl) ?_; clear f A; intro A f
     refine wpList_nil ?_
     refine x_tn ?_
     refine x_condF f rfl ?_
     refine wp_skip ?_
     refine x_tn ?_
     refine wp_seq ?_
     refine wp_seq ?_
     refine sx_list ?_
     refine l_do f rfl rfl rfl (y_move rfl rfl) ?_; clear f A; intro A f
     refine l_do f rfl rfl rfl (y_load1 rfl rfl (ag rfl) (rowl (rowq rb13) rfl)) ?_; clear f A; intro A f
     refine l_lookB (kl := .int .i64 vv) f rfl rfl rfl rfl rfl rfl mapT_II (Maps.keyOf_int_mk Try.underlying3 hwv) HM ?_ ?_
     ·clear f A; intro c22 lv A f
      refine l_do f rfl rfl rfl (y_move rfl rfl) ?_; clear f A; intro A f
      refine l_do f rfl rfl rfl (y_ext rfl rfl rfl) ?_; clear f A; intro A f
      refine l_do f rfl rfl rfl (y_ext rfl rfl rfl) ?_; clear f A; intro A f
      refine l_do f rfl rfl rfl (y_assign rfl rfl) ?_; clear f A; intro A f
      refine l_do f rfl rfl rfl (y_assign rfl rfl) ?_; clear f A; intro A f
      refine wpList_nil ?_
      refine x_tn ?_
      refine wp_seq ?_
      refine sx_list ?_
      refine l_do f rfl rfl rfl (y_move rfl rfl) ?_; clear f A; intro A f
      refine wpList_nil ?_
      refine x_tn ?_
      refine x_condT f rfl ?_
      refine wp_seq ?_
      refine sx_list ?_
      refine l_do f rfl rfl rfl (y_assign rfl rfl) ?_; clear f A; intro A f
      refine wpList_nil ?_
      refine x_tn ?_
      refine wp_ret ?_
      refine x_tr ?_
      refine x_br ?_
      refine x_tr ?_
      refine x_tr ?_
      refine x_br ?_
      refine x_tr ?_
      refine x_ret1 f rfl rfl ?_
      exact ⟨retB_false (fun h => keys_twice hXv.out c22 (h.2 k (by omega) (by rw [hXv.out]; exact c18)).2), B0⟩
     ·clear f A; intro c22 lv A f
      refine l_do f rfl rfl rfl (y_move rfl rfl) ?_; clear f A; intro A f
      refine l_do f rfl rfl rfl (y_ext rfl rfl rfl) ?_; clear f A; intro A f
      refine l_do f rfl rfl rfl (y_ext rfl rfl rfl) ?_; clear f A; intro A f
      refine l_do f rfl rfl rfl (y_assign rfl rfl) ?_; clear f A; intro A f
      refine l_do f rfl rfl rfl (y_assign rfl rfl) ?_; clear f A; intro A f
      refine wpList_nil ?_
      refine x_tn ?_
      refine wp_seq ?_
      refine sx_list ?_
      refine l_do f rfl rfl rfl (y_move rfl rfl) ?_; clear f A; intro A f
      refine wpList_nil ?_
      refine x_tn ?_
      refine x_condF f rfl ?_
      refine wp_skip ?_
      refine x_tn ?_
      refine sx_list ?_
      refine l_do f rfl rfl rfl (y_move rfl rfl) ?_; clear f A; intro A f
      refine l_do f rfl rfl rfl (y_load1 rfl rfl (ag rfl) (rowl (rowq rb13) rfl)) ?_; clear f A; intro A f
      refine l_do f rfl rfl rfl (y_move rfl rfl) ?_; clear f A; intro A f
      refine l_put (kl := .int .i64 vv) f rfl rfl rfl rfl rfl rfl mapT_II (Maps.keyOf_int_mk Try.underlying3 hwv) trivial (WalkArith.wf_i64 (by omega)) (by have : (70368744177664 : Nat) < maxLen := (by decide); omega) HM ?_; intro W23 hb24 HM
      replace B0 := Below.thenBut B0 hb24 (by omega); replace rb1 := But.row hb24 rb1 (by omega); replace rb4 := But.row hb24 rb4 (by omega); replace rb13 := But.row hb24 rb13 (by omega)
      refine wpList_nil ?_
      refine x_bn ?_
      refine x_tn ?_
      refine sx_list ?_
      refine l_do f rfl rfl rfl (y_add rfl rfl rfl rfl (by omega)) ?_; clear f A; intro A f
      refine l_do f rfl rfl rfl (y_move rfl rfl) ?_; clear f A; intro A f
      refine wpList_nil ?_
      refine x_tn ?_
      exact ⟨c.an - (k + 1), by omega, k + 1, m + 1, rfl, by omega, by omega, f.sub ⟨rfl, rfl, rfl, rfl, rfl, rfl, trivial⟩, B0, rb1, rb4, HM.iff fun kl => keys_put hXv.out c18, act_put hXv.out hin c22 hd⟩
    ·clear f A; intro c19 W21 hb20 A f
     replace B0 := Below.next B0 hb20; replace rb1 := row_next rb1 hb20; replace rb4 := row_next rb4 hb20; replace rb13 := row_next rb13 hb20; replace HM := HM.below hb20
     refine l_do f rfl rfl rfl (y_not rfl rfl) ?_; clear f A; intro A f
     refine wpList_nil ?_
     refine x_tn ?_
     refine x_condT f rfl ?_
     refine wp_seq ?_
     refine sx_list ?_
     refine l_do f rfl rfl rfl (y_assign rfl rfl) ?_; clear f A; intro A f
     refine wpList_nil ?_
     refine x_tn ?_
     refine wp_ret ?_
     refine x_tr ?_
     refine x_br ?_
     refine x_tr ?_
     refine x_tr ?_
     refine x_br ?_
     refine x_tr ?_
     refine x_ret1 f rfl rfl ?_
     exact ⟨retB_false (fun h => c19 (slabIn_to hc.slabs.len (by have := (h.2 k (by omega) (by rw [hXv.out]; exact c18)).1; rwa [hXv.out] at this))), B0⟩
  ·clear f A; intro c12 A f
   refine wpList_nil ?_
   refine x_tn ?_
   refine wp_seq ?_
   refine x_condF f rfl ?_
   refine wp_exit ?_
   refine x_te ?_
   refine x_te ?_
   refine x_bh ?_
   refine x_tn ?_
   refine wp_seq ?_
   refine sx_list ?_
   refine l_do f rfl rfl rfl (y_assign rfl rfl) ?_; clear f A; intro A f
   refine wpList_nil ?_
   refine x_tn ?_
   refine wp_ret ?_
   refine x_ret1 f rfl rfl ?_
   exact ⟨retB_true ⟨by have h2 := hc.act.len; omega, fun i hi h => hd i (by omega) h⟩, B0⟩
theorem slWords0 (w : World) : Calls Try.prog 81 #[.int .i64 0] w fun e w' => e = .returned (.int .i64 16) ∧ w' = w := by
 go_enter Try.func81, Try.ntmps81
 go_wp2
 go_ret
 exact ⟨rfl, rfl⟩
theorem slWords1 (w : World) : Calls Try.prog 81 #[.int .i64 1] w fun e w' => e = .returned (.int .i64 32) ∧ w' = w := by
 go_enter Try.func81, Try.ntmps81
 go_wp2
 go_ret
 exact ⟨rfl, rfl⟩
theorem slWords2 (w : World) : Calls Try.prog 81 #[.int .i64 2] w fun e w' => e = .returned (.int .i64 64) ∧ w' = w := by
 go_enter Try.func81, Try.ntmps81
 go_wp2
 go_ret
 exact ⟨rfl, rfl⟩
theorem slIsSize_any (s : Int) (w : World) : Calls Try.prog 80 #[.int .i64 s] w fun e w' => e = .returned (.bool (inB s 1 64)) ∧ w = w' := by
 by_cases h1 : 1 ≤ s
 ·by_cases h2 : s ≤ 64
  ·have hI : Hid (inB s 1 64 = true) := inB_t ⟨h1, h2⟩
   go_enter Try.func80, Try.ntmps80
   go_wp2
   go_ret
   exact ⟨ret_bool hI.out.symm, rfl⟩
  ·have hI : Hid (inB s 1 64 = false) := inB_f (by omega)
   go_enter Try.func80, Try.ntmps80
   go_wp2
   go_ret
   exact ⟨ret_bool hI.out.symm, rfl⟩
 ·have hI : Hid (inB s 1 64 = false) := inB_f (by omega)
  go_enter Try.func80, Try.ntmps80
  go_wp2
  go_ret
  exact ⟨ret_bool hI.out.symm, rfl⟩
theorem layoutOf_no (s : Int) (h : ¬ (1 ≤ s ∧ s ≤ 64)) (w : World) : Calls Try.prog 42 #[.int .i64 s] w fun e w' => e = .returned (.tuple #[.int .i64 0, .int .i64 0, .int .i64 1]) ∧ w = w' := by
 have hI : inB s 1 64 = false := inB_f (by omega)
 have HI := in_any s 1 64 w
 rw [hI] at HI
 clear hI
 go_enter Try.func42, Try.ntmps42
 go_wp2_with fail
 go_at_call 36
 refine HI.mono ?_
 rintro e w1 ⟨rfl, rfl⟩
 go_wp2
 go_ret3
 exact ⟨rfl, rfl⟩
theorem slLayout_no (s : Int) (h : ¬ (1 ≤ s ∧ s ≤ 64)) (w : World) : Calls Try.prog 62 #[.int .i64 s] w fun e w' => e = .returned (.tuple #[.int .i64 0, .int .i64 0, .int .i64 1]) ∧ w = w' := by
 have hI : inB s 1 64 = false := inB_f (by omega)
 have HI := slIsSize_any s w
 rw [hI] at HI
 clear hI
 go_enter Try.func62, Try.ntmps62
 go_wp2_with fail
 go_at_call 80
 refine HI.mono ?_
 rintro e w1 ⟨rfl, rfl⟩
 go_wp2
 go_ret3
 exact ⟨rfl, rfl⟩
theorem layoutOf_ok (s : Int) (h1 : 1 ≤ s) (h2 : s ≤ 64) (w : World) : Calls Try.prog 42 #[.int .i64 s] w fun e w' => e = .returned (.tuple #[.int .i64 (layO s), .int .i64 (layN s), .int .i64 0]) ∧ ∃ d, w' = w.drewN d := by
 have hI : inB s 1 64 = true := inB_t ⟨h1, h2⟩
 have HI := in_any s 1 64 w
 rw [hI] at HI
 clear hI
 have z : (s == 0) = false := by simp; omega
 obtain ⟨q0, e0⟩ : ∃ q, (16 : Int).tdiv s = q := ⟨_, rfl⟩
 obtain ⟨q1, e1⟩ : ∃ q, (32 : Int).tdiv s = q := ⟨_, rfl⟩
 obtain ⟨q2, e2⟩ : ∃ q, (64 : Int).tdiv s = q := ⟨_, rfl⟩
 have d0 := tdiv_pos 16 s (by omega)
 have d1 := tdiv_pos 32 s (by omega)
 have d2 := tdiv_pos 64 s (by omega)
 rw [e0] at d0; rw [e1] at d1; rw [e2] at d2
 obtain ⟨a0, b0⟩ := div_range 16 s (by omega) (by omega) (by omega)
 obtain ⟨a1, b1⟩ := div_range 32 s (by omega) (by omega) (by omega)
 obtain ⟨a2, b2⟩ := div_range 64 s (by omega) (by omega) (by omega)
 rw [← d0] at a0 b0; rw [← d1] at a1 b1; rw [← d2] at a2 b2
 rcases (show s ≤ 4 ∨ (4 < s ∧ s ≤ 8) ∨ 8 < s by omega) with hs | hs | hs
 ·have hq : 4 ≤ q0 := by rw [d0]; exact div_ge_four 16 s (by omega) (by omega)
  have HL : Hid (layO s = 0 ∧ layN s = q0) := by show _ ∧ _; unfold layO layN; rw [if_pos hs, if_pos hs]; exact ⟨rfl, d0.symm⟩
  clear d0 d1 d2 e1 e2
  go_enter Try.func42, Try.ntmps42
  go_wp2_with fail
  go_at_call 36
  refine HI.mono ?_
  rintro e w1 ⟨rfl, rfl⟩
  go_wp2
  go_quiet (fail)
  go_wp2
  go_ret3
  rw [HL.out.1, HL.out.2]
  exact ⟨rfl, _, rfl⟩
 ·have hq : q0 < 4 := by rw [d0]; exact div_lt_four 16 s (by omega) (by omega)
  have hq1 : 4 ≤ q1 := by rw [d1]; exact div_ge_four 32 s (by omega) (by omega)
  have HL : Hid (layO s = 1 ∧ layN s = q1) := by show _ ∧ _; unfold layO layN; rw [if_neg (show ¬ s ≤ 4 by omega), if_neg (show ¬ s ≤ 4 by omega), if_pos hs.2, if_pos hs.2]; exact ⟨rfl, d1.symm⟩
  clear d0 d1 d2 e2
  go_enter Try.func42, Try.ntmps42
  go_wp2_with fail
  go_at_call 36
  refine HI.mono ?_
  rintro e w1 ⟨rfl, rfl⟩
  go_wp2
  go_quiet (fail)
  go_wp2
  go_ret3
  rw [HL.out.1, HL.out.2]
  exact ⟨rfl, _, rfl⟩
 ·have hq : q0 < 4 := by rw [d0]; exact div_lt_four 16 s (by omega) (by omega)
  have hq1 : q1 < 4 := by rw [d1]; exact div_lt_four 32 s (by omega) (by omega)
  have HL : Hid (layO s = 2 ∧ layN s = q2) := by show _ ∧ _; unfold layO layN; rw [if_neg (show ¬ s ≤ 4 by omega), if_neg (show ¬ s ≤ 4 by omega), if_neg (show ¬ s ≤ 8 by omega), if_neg (show ¬ s ≤ 8 by omega)]; exact ⟨rfl, d2.symm⟩
  clear d0 d1 d2
  go_enter Try.func42, Try.ntmps42
  go_wp2_with fail
  go_at_call 36
  refine HI.mono ?_
  rintro e w1 ⟨rfl, rfl⟩
  go_wp2
  go_quiet (fail)
  go_wp2
  go_ret3
  rw [HL.out.1, HL.out.2]
  exact ⟨rfl, _, rfl⟩
theorem slLayout_ok (s : Int) (h1 : 1 ≤ s) (h2 : s ≤ 64) (w : World) : Calls Try.prog 62 #[.int .i64 s] w fun e w' => e = .returned (.tuple #[.int .i64 (layO s), .int .i64 (layN s), .int .i64 0]) ∧ ∃ d, w' = w.drewN d := by
 have hI : inB s 1 64 = true := inB_t ⟨h1, h2⟩
 have HI := slIsSize_any s w
 rw [hI] at HI
 clear hI
 have z : (s == 0) = false := by simp; omega
 obtain ⟨q0, e0⟩ : ∃ q, (16 : Int).tdiv s = q := ⟨_, rfl⟩
 obtain ⟨q1, e1⟩ : ∃ q, (32 : Int).tdiv s = q := ⟨_, rfl⟩
 obtain ⟨q2, e2⟩ : ∃ q, (64 : Int).tdiv s = q := ⟨_, rfl⟩
 have d0 := tdiv_pos 16 s (by omega)
 have d1 := tdiv_pos 32 s (by omega)
 have d2 := tdiv_pos 64 s (by omega)
 rw [e0] at d0; rw [e1] at d1; rw [e2] at d2
 obtain ⟨a0, b0⟩ := div_range 16 s (by omega) (by omega) (by omega)
 obtain ⟨a1, b1⟩ := div_range 32 s (by omega) (by omega) (by omega)
 obtain ⟨a2, b2⟩ := div_range 64 s (by omega) (by omega) (by omega)
 rw [← d0] at a0 b0; rw [← d1] at a1 b1; rw [← d2] at a2 b2
 obtain ⟨O, N, hO, hN⟩ : ∃ O N : Int, layO s = O ∧ layN s = N := ⟨_, _, rfl, rfl⟩
 have HL : Hid (layO s = O ∧ layN s = N) := ⟨hO, hN⟩
 have W0 := slWords0
 have W1 := slWords1
 have W2 := slWords2
 have HK : Hid ((O = 0 ∧ 4 ≤ q0 ∧ N = q0) ∨ (O = 1 ∧ q0 < 4 ∧ 4 ≤ q1 ∧ N = q1) ∨ (O = 2 ∧ q0 < 4 ∧ q1 < 4 ∧ N = q2)) := by
  show _ ∨ _ ∨ _
  rcases (show s ≤ 4 ∨ (4 < s ∧ s ≤ 8) ∨ 8 < s by omega) with hs | hs | hs
  ·have hq : 4 ≤ q0 := by rw [d0]; exact div_ge_four 16 s (by omega) (by omega)
   refine .inl ⟨?_, hq, ?_⟩
   ·rw [← hO]; unfold layO; rw [if_pos hs]
   ·rw [← hN, d0]; unfold layN; rw [if_pos hs]
  ·have hq : q0 < 4 := by rw [d0]; exact div_lt_four 16 s (by omega) (by omega)
   have hq1 : 4 ≤ q1 := by rw [d1]; exact div_ge_four 32 s (by omega) (by omega)
   refine .inr (.inl ⟨?_, hq, hq1, ?_⟩)
   ·rw [← hO]; unfold layO; rw [if_neg (show ¬ s ≤ 4 by omega), if_pos hs.2]
   ·rw [← hN, d1]; unfold layN; rw [if_neg (show ¬ s ≤ 4 by omega), if_pos hs.2]
  ·have hq : q0 < 4 := by rw [d0]; exact div_lt_four 16 s (by omega) (by omega)
   have hq1 : q1 < 4 := by rw [d1]; exact div_lt_four 32 s (by omega) (by omega)
   refine .inr (.inr ⟨?_, hq, hq1, ?_⟩)
   ·rw [← hO]; unfold layO; rw [if_neg (show ¬ s ≤ 4 by omega), if_neg (show ¬ s ≤ 8 by omega)]
   ·rw [← hN, d2]; unfold layN; rw [if_neg (show ¬ s ≤ 4 by omega), if_neg (show ¬ s ≤ 8 by omega)]
 clear d0 d1 d2 hO hN
 go_enter Try.func62, Try.ntmps62
 go_wp2_with fail
 go_at_call 80
 refine HI.mono ?_
 rintro e w1 ⟨rfl, rfl⟩
 clear HI
 go_wp2_with fail
 go_loopw [5] (fun ov wr => ∃ k : Nat, k ≤ 2 ∧ (k : Int) ≤ O ∧ ov = .int .i64 k ∧ Hid (∃ d, wr = w.drewN d)) (fun ov _ => (2 - intOf ov).toNat)
 case atStart =>
  exact ⟨0, by omega, by rcases HK.out with ⟨h, _⟩ | ⟨h, _⟩ | ⟨h, _⟩ <;> omega, rfl, ⟨0, rfl⟩⟩
 case round =>
  obtain ⟨k, hk, hkO, rfl, hd⟩ := hrel
  clear W0 W1 W2
  rcases HK.out with ⟨rfl, g0, rfl⟩ | ⟨rfl, g0, g1, rfl⟩ | ⟨rfl, g0, g1, rfl⟩
  ·obtain rfl : k = 0 := by omega
   clear HK e1 e2
   go_wp2_with fail
   go_at_call 81
   refine (slWords0 _).mono ?_
   rintro e w1 ⟨rfl, rfl⟩
   go_wp2_with fail
   go_quiet ((go_at_call 81; exact Calls.quiet_of_same (slWords0 _)))
   go_wp2
   go_ret3
   rw [HL.out.1, HL.out.2]
   exact ⟨rfl, drawn_more hd.out _⟩
  ·rcases (show k = 0 ∨ k = 1 by omega) with rfl | rfl
   ·clear e1 e2
    go_wp2_with fail
    go_at_call 81
    refine (slWords0 _).mono ?_
    rintro e w1 ⟨rfl, rfl⟩
    go_wp2_with fail
    go_roundw
    case rel => exact ⟨1, by omega, by omega, by go_num, hd⟩
    case measure => simp [intOf]
   ·clear HK e0 e2
    go_wp2_with fail
    go_at_call 81
    refine (slWords1 _).mono ?_
    rintro e w1 ⟨rfl, rfl⟩
    go_wp2_with fail
    go_quiet ((go_at_call 81; exact Calls.quiet_of_same (slWords1 _)))
    go_wp2
    go_ret3
    rw [HL.out.1, HL.out.2]
    exact ⟨rfl, drawn_more hd.out _⟩
  ·rcases (show k = 0 ∨ k = 1 ∨ k = 2 by omega) with rfl | rfl | rfl
   ·clear e1 e2
    go_wp2_with fail
    go_at_call 81
    refine (slWords0 _).mono ?_
    rintro e w1 ⟨rfl, rfl⟩
    go_wp2_with fail
    go_roundw
    case rel => exact ⟨1, by omega, by omega, by go_num, hd⟩
    case measure => simp [intOf]
   ·clear e0 e2
    go_wp2_with fail
    go_at_call 81
    refine (slWords1 _).mono ?_
    rintro e w1 ⟨rfl, rfl⟩
    go_wp2_with fail
    go_roundw
    case rel => exact ⟨2, by omega, by omega, by go_num, hd⟩
    case measure => simp [intOf]
   ·clear HK e0 e1
    go_wp2_with fail
    go_quiet ((go_at_call 81; exact Calls.quiet_of_same (slWords2 _)))
    go_wp2
    go_ret3
    rw [HL.out.1, HL.out.2]
    exact ⟨rfl, drawn_more hd.out _⟩
end Go.Proofs.Ytnijjpakpphhhaa
