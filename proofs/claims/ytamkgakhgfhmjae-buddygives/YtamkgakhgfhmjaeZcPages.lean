/-
  OWN TEXT. Contracts of the code: buddy.Pages, buddy.group, buddy.TypeAt.
-/
import Derived.Test.YtamkgakhgfhmjaeZcCheck
import Derived.Test.YtamkgakhgfhmjaeZTyp
namespace Go.Proofs.Ytamkgakhgfhmjae
open Go Go.RowKit Go.Proofs.Ytamkgakhgfhmjae.Kit

set_option maxHeartbeats 2000000 in
theorem zPages_ok (w : World) (fo : Option Addr) (fn fc : Nat) (to_ : Option Addr) (tn tc : Nat) (z : Zn) (h : ZnAt w fo fn to_ tn z) (hM : ZMay z) :
    Calls Try.prog 7 #[.agg #[.int .i64 z.f, .int .i64 z.t, .slice fo fn fc, .slice to_ tn tc]] w fun e w' => e = .returned (.tuple #[.int .i64 (freeN z.free), .int .i64 0]) ∧ Below w.heap.size w w' := by
  have I0 := ckInv_first w fo fn fc to_ tn tc z h
  have c0 := I0.box.c0
  have c1 := I0.box.c1
  have c2 := I0.box.c2
  have c3 := I0.box.c3
  have hfl := h.free.len
  have hfr := h.free.reach
  clear h
  obtain ⟨n1, n2, n3, n4, n5⟩ := hM.new
  have hF := hM.free
  go_enter Try.func7, Try.ntmps7
  go_wp2_with fail
  go_at_call 17
  refine (zCheck_ok _ fo fn fc to_ tn tc z I0.zn hM).mono ?_
  rintro e w1 ⟨rfl, hb1⟩
  have I1 := I0.step hb1
  clear I0 c0 c1 c2 c3 hb1 hM
  have c2 := I1.box.c2
  go_wp2
  clear c2
  go_loopw [5, 16] (fun nv iv wr => ∃ k : Nat, k ≤ fn ∧ iv = .int .i64 k ∧ nv = .int .i64 (freeN (z.free.take k)) ∧ CkInv w fo fn fc to_ tn tc z wr) (fun _ iv _ => fn - (intOf iv).toNat)
  case atStart => exact ⟨0, Nat.zero_le _, rfl, rfl, I1⟩
  case round =>
    obtain ⟨k, hk, rfl, rfl, I⟩ := hrel
    clear I1
    by_cases hlt : k < fn
    · obtain ⟨bb, bf, x, y, u, rfl, x0, x1, x2, hX⟩ := I.zn.free.at_.at k (by omega)
      have htk := take_getD z.free k (by omega) hX.out
      have hB := (freeOk_at hF (by omega) hX.out).1
      have hle : FreeOk z.f z.t z.f none (z.free.take k) := by rw [← List.take_append_drop k z.free] at hF; exact freeOk_left hF
      have hbd := freeN_le hle n5 n2
      have hbx := below_box wr (.cells #[.int .i64 x, .int .i64 y, .int .i64 u] 39)
      have I3 := I.step hbx
      have HS : Hid (freeN (z.free.take (k + 1)) = freeN (z.free.take k) + pw y) := by show _ = _; rw [htk, freeN_snoc]
      obtain ⟨S, hS⟩ : ∃ S, freeN (z.free.take k) = S := ⟨_, rfl⟩
      rw [hS] at hbd HS ⊢
      clear hS htk hle I hbx hF hX
      have hy := hB.1
      clear hB
      rcases ord_cases hy with ⟨rfl, e⟩ | ⟨rfl, e⟩ | ⟨rfl, e⟩ | ⟨rfl, e⟩ | ⟨rfl, e⟩
      all_goals
        clear hy
        have HS2 := HS.out
        rw [e] at HS2
        have HS3 : Hid _ := HS2
        clear HS2 e HS
        go_wp2
        go_roundw
        case rel => exact ⟨k + 1, by omega, by go_num, by rw [HS3.out], I3⟩
        case measure => simp [intOf]; omega
    · have HE : Hid (z.free.take k = z.free) := List.take_of_length_le (by omega)
      have hbb := I.b
      rw [HE.out]
      go_wp2
      go_ret2
      exact ⟨rfl, hbb⟩

set_option maxHeartbeats 1000000 in
theorem zPages_no (w : World) (fo : Option Addr) (fn fc : Nat) (to_ : Option Addr) (tn tc : Nat) (z : Zn) (h : ZnAt w fo fn to_ tn z) (hf : ZFits z) (hM : ¬ ZMay z) :
    Calls Try.prog 7 #[.agg #[.int .i64 z.f, .int .i64 z.t, .slice fo fn fc, .slice to_ tn tc]] w fun e w' => e = .returned (.tuple #[.int .i64 0, .int .i64 8]) ∧ Below w.heap.size w w' := by
  have I0 := ckInv_first w fo fn fc to_ tn tc z h
  have c0 := I0.box.c0
  have c1 := I0.box.c1
  have c2 := I0.box.c2
  have c3 := I0.box.c3
  clear h
  go_enter Try.func7, Try.ntmps7
  go_wp2_with fail
  go_at_call 17
  refine (zCheck_no _ fo fn fc to_ tn tc z I0.zn hf hM).mono ?_
  rintro e w1 ⟨rfl, hb1⟩
  have hbb := (I0.step hb1).b
  clear I0 c0 c1 c2 c3 hb1 hM hf
  go_wp2
  go_ret2
  exact ⟨rfl, hbb⟩

set_option maxHeartbeats 1000000 in
theorem group_any (w : World) (f t : Int) (fo to_ : Option Addr) (fn fc tn tc : Nat) (a : Int) (h0 : 0 ≤ f) (h1 : f ≤ a) (h2 : a ≤ 256) :
    Calls Try.prog 21 #[.agg #[.int .i64 f, .int .i64 t, .slice fo fn fc, .slice to_ tn tc], .int .i64 a] w fun e w' => e = .returned (.int .i64 ((a - f) / 8)) ∧ Below w.heap.size w w' := by
  have hb1 := below_box w (.cells #[.int .i64 f, .int .i64 t, .slice fo fn fc, .slice to_ tn tc] 25)
  obtain ⟨D, hD⟩ : ∃ D : Nat, a - f = (D : Int) := ⟨(a - f).toNat, by omega⟩
  obtain ⟨N, hq⟩ : ∃ N : Nat, (D : Int) / 8 = (N : Int) := ⟨D / 8, by omega⟩
  rw [hD, hq]
  go_enter Try.func21, Try.ntmps21
  go_wp2
  go_ret
  exact ⟨rfl, hb1⟩

set_option maxHeartbeats 1000000 in
theorem zTypeAt_ok (w : World) (fo : Option Addr) (fn fc : Nat) (to_ : Option Addr) (tn tc : Nat) (z : Zn) (a : Int) (h : ZnAt w fo fn to_ tn z) (hM : ZMay z) (ha : z.f ≤ a ∧ a ≤ z.t - 1) :
    Calls Try.prog 9 #[.agg #[.int .i64 z.f, .int .i64 z.t, .slice fo fn fc, .slice to_ tn tc], .int .i64 a] w fun e w' => e = .returned (.tuple #[.int .i64 (typeZ z a), .int .i64 0]) ∧ Below w.heap.size w w' := by
  have I0 := ckInv_first w fo fn fc to_ tn tc z h
  have c0 := I0.box.c0
  have c1 := I0.box.c1
  have c2 := I0.box.c2
  have c3 := I0.box.c3
  have e2 : Hid (inB a z.f (z.t - 1) = true) := inB_t ha
  obtain ⟨n1, n2, n3, n4, n5⟩ := hM.new
  have hlen := hM.len
  have htl := h.types.len
  have htr := h.types.reach
  obtain ⟨K, hK⟩ : ∃ K : Nat, (a - z.f) / 8 = (K : Int) := ⟨((a - z.f) / 8).toNat, by omega⟩
  have hKn : K < tn := by omega
  have hKi : (K : Int) < (tn : Int) := by omega
  have HT : Hid (typeZ z a = z.types.getD K 0) := by show _ = _; unfold typeZ; rw [hK]; rfl
  clear h
  go_enter Try.func9, Try.ntmps9
  go_wp2_with fail
  go_at_call 17
  refine (zCheck_ok _ fo fn fc to_ tn tc z I0.zn hM).mono ?_
  rintro e w1 ⟨rfl, hb1⟩
  have I1 := I0.step hb1
  clear I0 c0 c1 c2 c3 hb1 hM
  have c0 := I1.box.c0
  have c1 := I1.box.c1
  have c2 := I1.box.c2
  have c3 := I1.box.c3
  go_wp2_with fail
  go_at_call 20
  refine (isPage_any _ _ _ _ _ _ _ _ _ _).mono ?_
  rintro e w2 ⟨rfl, hb2⟩
  rw [e2.out]
  have I2 := I1.step hb2
  clear I1 c0 c1 c2 c3 hb2
  have c0 := I2.box.c0
  have c1 := I2.box.c1
  have c2 := I2.box.c2
  have c3 := I2.box.c3
  obtain ⟨b, o, x, rfl, cx, hX⟩ := I2.zn.types.at_.at K (by omega)
  have HT2 : Hid (typeZ z a = x) := HT.out.trans hX.out
  have m0 : ∀ wx, Below w2.heap.size w2 wx → wx.cell? ⟨w.heap.size, 0, none⟩ = some (.int .i64 z.f) := fun wx h => keep c0 h
  have m1 : ∀ wx, Below w2.heap.size w2 wx → wx.cell? ⟨w.heap.size, 1, none⟩ = some (.int .i64 z.t) := fun wx h => keep c1 h
  have m2 : ∀ wx, Below w2.heap.size w2 wx → wx.cell? ⟨w.heap.size, 2, none⟩ = some (.slice fo fn fc) := fun wx h => keep c2 h
  have m3 : ∀ wx, Below w2.heap.size w2 wx → wx.cell? ⟨w.heap.size, 3, none⟩ = some (.slice (some ⟨b, o, none⟩) tn tc) := fun wx h => keep c3 h
  have m4 : ∀ wx, Below w2.heap.size w2 wx → wx.cell? ⟨b, o + K, none⟩ = some (.int .i64 x) := fun wx h => keep cx h
  have HG : Hid (∀ W, Below w2.heap.size w2 W → Calls Try.prog 21 #[.agg #[.int .i64 z.f, .int .i64 z.t, .slice fo fn fc, .slice (some ⟨b, o, none⟩) tn tc], .int .i64 a] W fun e w' => e = .returned (.int .i64 K) ∧ Below w2.heap.size w2 w') := fun W hS => by
    rw [← hK]
    refine (group_any W z.f z.t fo _ fn fc tn tc a n1 ha.1 (by omega)).mono ?_
    rintro e w' ⟨rfl, hb⟩
    exact ⟨rfl, hS.trans (hb.mono hS.size)⟩
  have S0 : Below w2.heap.size w2 w2 := Below.refl _ _
  have hB2 := I2.b
  clear HT hX hK I2 c0 c1 c2 c3 cx
  go_wp2_with fail
  go_region_held3 (fun wx => Below w2.heap.size w2 wx) (first | assumption | exact Below.drew (by assumption))
    (first
      | (go_at_call 21; refine (HG.out _ ?_).mono ?_; assumption; rintro e w3 ⟨rfl, hS3⟩))
  all_goals
    have hbb := hB2.trans (hS3.mono hB2.size)
    clear HG m0 m1 m2 m3 m4 S0
    go_wp2
    go_ret2
    exact ⟨by rw [HT2.out]; rfl, hbb⟩

set_option maxHeartbeats 1000000 in
theorem zTypeAt_range (w : World) (fo : Option Addr) (fn fc : Nat) (to_ : Option Addr) (tn tc : Nat) (z : Zn) (a : Int) (h : ZnAt w fo fn to_ tn z) (hM : ZMay z) (ha : ¬ (z.f ≤ a ∧ a ≤ z.t - 1)) :
    Calls Try.prog 9 #[.agg #[.int .i64 z.f, .int .i64 z.t, .slice fo fn fc, .slice to_ tn tc], .int .i64 a] w fun e w' => e = .returned (.tuple #[.int .i64 0, .int .i64 1]) ∧ Below w.heap.size w w' := by
  have I0 := ckInv_first w fo fn fc to_ tn tc z h
  have c0 := I0.box.c0
  have c1 := I0.box.c1
  have c2 := I0.box.c2
  have c3 := I0.box.c3
  have e2 : Hid (inB a z.f (z.t - 1) = false) := inB_f ha
  clear h ha
  go_enter Try.func9, Try.ntmps9
  go_wp2_with fail
  go_at_call 17
  refine (zCheck_ok _ fo fn fc to_ tn tc z I0.zn hM).mono ?_
  rintro e w1 ⟨rfl, hb1⟩
  have I1 := I0.step hb1
  clear I0 c0 c1 c2 c3 hb1 hM
  have c0 := I1.box.c0
  have c1 := I1.box.c1
  have c2 := I1.box.c2
  have c3 := I1.box.c3
  go_wp2_with fail
  go_at_call 20
  refine (isPage_any _ _ _ _ _ _ _ _ _ _).mono ?_
  rintro e w2 ⟨rfl, hb2⟩
  rw [e2.out]
  have hbb := (I1.step hb2).b
  clear I1 c0 c1 c2 c3 hb2
  go_wp2
  go_ret2
  exact ⟨rfl, hbb⟩

set_option maxHeartbeats 1000000 in
theorem zTypeAt_no (w : World) (fo : Option Addr) (fn fc : Nat) (to_ : Option Addr) (tn tc : Nat) (z : Zn) (a : Int) (h : ZnAt w fo fn to_ tn z) (hf : ZFits z) (hM : ¬ ZMay z) :
    Calls Try.prog 9 #[.agg #[.int .i64 z.f, .int .i64 z.t, .slice fo fn fc, .slice to_ tn tc], .int .i64 a] w fun e w' => e = .returned (.tuple #[.int .i64 0, .int .i64 8]) ∧ Below w.heap.size w w' := by
  have I0 := ckInv_first w fo fn fc to_ tn tc z h
  have c0 := I0.box.c0
  have c1 := I0.box.c1
  have c2 := I0.box.c2
  have c3 := I0.box.c3
  clear h
  go_enter Try.func9, Try.ntmps9
  go_wp2_with fail
  go_at_call 17
  refine (zCheck_no _ fo fn fc to_ tn tc z I0.zn hf hM).mono ?_
  rintro e w1 ⟨rfl, hb1⟩
  have hbb := (I0.step hb1).b
  clear I0 c0 c1 c2 c3 hb1 hM hf
  go_wp2
  go_ret2
  exact ⟨rfl, hbb⟩

end Go.Proofs.Ytamkgakhgfhmjae
