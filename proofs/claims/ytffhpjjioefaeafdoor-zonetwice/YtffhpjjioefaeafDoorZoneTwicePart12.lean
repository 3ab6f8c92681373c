/-
  OWN TEXTS, bundled: ZTyp, ZcPages, WZoneTwice.
-/
import Derived.Test.YtffhpjjioefaeafDoorPart2
import Derived.Test.YtffhpjjioefaeafDoorPart4
import Derived.Test.YtffhpjjioefaeafDoorPart6
import Derived.Test.YtffhpjjioefaeafDoorPart11
import Derived.Test.YtffhpjjioefaeafDoorPart7

/-
  OWN TEXT. The type of a page's group.
-/
namespace Go.Proofs.YtffhpjjioefaeafDoor.Kit

/-- The type of the group of a page. -/
def typeZ (z : Zn) (a : Int) : Int := z.types.getD ((a - z.f) / 8).toNat 0

end Go.Proofs.YtffhpjjioefaeafDoor.Kit

/-
  OWN TEXT. Contracts of the code: buddy.Pages, buddy.TypeAt.
-/
namespace Go.Proofs.YtffhpjjioefaeafDoor
open Go Go.RowKit Go.Proofs.YtffhpjjioefaeafDoor.Kit

set_option maxHeartbeats 2000000 in
theorem zPages_ok (w : World) (fo : Option Addr) (fn fc : Nat) (to_ : Option Addr) (tn tc : Nat) (z : Zn) (h : ZnAt w fo fn to_ tn z) (hM : ZMay z) :
    Calls Tryd.prog 20 #[.agg #[.int .i64 z.f, .int .i64 z.t, .slice fo fn fc, .slice to_ tn tc]] w fun e w' => e = .returned (.tuple #[.int .i64 (freeN z.free), .int .i64 0]) ∧ Below w.heap.size w w' := by
  have I0 := ckInv_first w fo fn fc to_ tn tc z h
  have c0 := I0.box.c0
  have c1 := I0.box.c1
  have c2 := I0.box.c2
  have c3 := I0.box.c3
  have hfl := h.free.len
  have hfr := h.free.reach
  clear h
  obtain ⟨n1, n2, n3, n4, n5⟩ := hM.new
  have hF := hM.free
  go_enter Tryd.func20, Tryd.ntmps20
  go_wp2_with fail
  go_at_call 25
  refine (zCheck_ok _ fo fn fc to_ tn tc z I0.zn hM).mono ?_
  rintro e w1 ⟨rfl, hb1⟩
  have I1 := I0.step hb1
  clear I0 c0 c1 c2 c3 hb1 hM
  have c2 := I1.box.c2
  go_wp2
  clear c2
  go_loopw [5, 16] (fun nv iv wr => ∃ k : Nat, k ≤ fn ∧ iv = .int .i64 k ∧ nv = .int .i64 (freeN (z.free.take k)) ∧ CkInv w fo fn fc to_ tn tc z wr) (fun _ iv _ => fn - (intOf iv).toNat)
  case atStart => exact ⟨0, Nat.zero_le _, rfl, rfl, I1⟩
  case round =>
    obtain ⟨k, hk, rfl, rfl, I⟩ := hrel
    clear I1
    by_cases hlt : k < fn
    · obtain ⟨bb, bf, x, y, u, rfl, x0, x1, x2, hX⟩ := I.zn.free.at_.at k (by omega)
      have htk := take_getD z.free k (by omega) hX.out
      have hB := (freeOk_at hF (by omega) hX.out).1
      have hle : FreeOk z.f z.t z.f none (z.free.take k) := by rw [← List.take_append_drop k z.free] at hF; exact freeOk_left hF
      have hbd := freeN_le hle n5 n2
      have hbx := below_box wr (.cells #[.int .i64 x, .int .i64 y, .int .i64 u] 32)
      have I3 := I.step hbx
      have HS : Hid (freeN (z.free.take (k + 1)) = freeN (z.free.take k) + pw y) := by show _ = _; rw [htk, freeN_snoc]
      obtain ⟨S, hS⟩ : ∃ S, freeN (z.free.take k) = S := ⟨_, rfl⟩
      rw [hS] at hbd HS ⊢
      clear hS htk hle I hbx hF hX
      have hy := hB.1
      clear hB
      rcases ord_cases hy with ⟨rfl, e⟩ | ⟨rfl, e⟩ | ⟨rfl, e⟩ | ⟨rfl, e⟩ | ⟨rfl, e⟩
      all_goals
        clear hy
        have HS2 := HS.out
        rw [e] at HS2
        have HS3 : Hid _ := HS2
        clear HS2 e HS
        go_wp2
        go_roundw
        case rel => exact ⟨k + 1, by omega, by go_num, by rw [HS3.out], I3⟩
        case measure => simp [intOf]; omega
    · have HE : Hid (z.free.take k = z.free) := List.take_of_length_le (by omega)
      have hbb := I.b
      rw [HE.out]
      go_wp2
      go_ret2
      exact ⟨rfl, hbb⟩

set_option maxHeartbeats 1000000 in
theorem zPages_no (w : World) (fo : Option Addr) (fn fc : Nat) (to_ : Option Addr) (tn tc : Nat) (z : Zn) (h : ZnAt w fo fn to_ tn z) (hf : ZFits z) (hM : ¬ ZMay z) :
    Calls Tryd.prog 20 #[.agg #[.int .i64 z.f, .int .i64 z.t, .slice fo fn fc, .slice to_ tn tc]] w fun e w' => e = .returned (.tuple #[.int .i64 0, .int .i64 8]) ∧ Below w.heap.size w w' := by
  have I0 := ckInv_first w fo fn fc to_ tn tc z h
  have c0 := I0.box.c0
  have c1 := I0.box.c1
  have c2 := I0.box.c2
  have c3 := I0.box.c3
  clear h
  go_enter Tryd.func20, Tryd.ntmps20
  go_wp2_with fail
  go_at_call 25
  refine (zCheck_no _ fo fn fc to_ tn tc z I0.zn hf hM).mono ?_
  rintro e w1 ⟨rfl, hb1⟩
  have hbb := (I0.step hb1).b
  clear I0 c0 c1 c2 c3 hb1 hM hf
  go_wp2
  go_ret2
  exact ⟨rfl, hbb⟩

set_option maxHeartbeats 1000000 in
theorem zTypeAt_ok (w : World) (fo : Option Addr) (fn fc : Nat) (to_ : Option Addr) (tn tc : Nat) (z : Zn) (a : Int) (h : ZnAt w fo fn to_ tn z) (hM : ZMay z) (ha : z.f ≤ a ∧ a ≤ z.t - 1) :
    Calls Tryd.prog 21 #[.agg #[.int .i64 z.f, .int .i64 z.t, .slice fo fn fc, .slice to_ tn tc], .int .i64 a] w fun e w' => e = .returned (.tuple #[.int .i64 (typeZ z a), .int .i64 0]) ∧ Below w.heap.size w w' := by
  have I0 := ckInv_first w fo fn fc to_ tn tc z h
  have c0 := I0.box.c0
  have c1 := I0.box.c1
  have c2 := I0.box.c2
  have c3 := I0.box.c3
  have e2 : Hid (inB a z.f (z.t - 1) = true) := inB_t ha
  obtain ⟨n1, n2, n3, n4, n5⟩ := hM.new
  have hlen := hM.len
  have htl := h.types.len
  have htr := h.types.reach
  obtain ⟨K, hK⟩ : ∃ K : Nat, (a - z.f) / 8 = (K : Int) := ⟨((a - z.f) / 8).toNat, by omega⟩
  have hKn : K < tn := by omega
  have hKi : (K : Int) < (tn : Int) := by omega
  have HT : Hid (typeZ z a = z.types.getD K 0) := by show _ = _; unfold typeZ; rw [hK]; rfl
  clear h
  go_enter Tryd.func21, Tryd.ntmps21
  go_wp2_with fail
  go_at_call 25
  refine (zCheck_ok _ fo fn fc to_ tn tc z I0.zn hM).mono ?_
  rintro e w1 ⟨rfl, hb1⟩
  have I1 := I0.step hb1
  clear I0 c0 c1 c2 c3 hb1 hM
  have c0 := I1.box.c0
  have c1 := I1.box.c1
  have c2 := I1.box.c2
  have c3 := I1.box.c3
  go_wp2_with fail
  go_at_call 36
  refine (isPage_any _ _ _ _ _ _ _ _ _ _).mono ?_
  rintro e w2 ⟨rfl, hb2⟩
  rw [e2.out]
  have I2 := I1.step hb2
  clear I1 c0 c1 c2 c3 hb2
  have c0 := I2.box.c0
  have c1 := I2.box.c1
  have c2 := I2.box.c2
  have c3 := I2.box.c3
  obtain ⟨b, o, x, rfl, cx, hX⟩ := I2.zn.types.at_.at K (by omega)
  have HT2 : Hid (typeZ z a = x) := HT.out.trans hX.out
  have m0 : ∀ wx, Below w2.heap.size w2 wx → wx.cell? ⟨w.heap.size, 0, none⟩ = some (.int .i64 z.f) := fun wx h => keep c0 h
  have m1 : ∀ wx, Below w2.heap.size w2 wx → wx.cell? ⟨w.heap.size, 1, none⟩ = some (.int .i64 z.t) := fun wx h => keep c1 h
  have m2 : ∀ wx, Below w2.heap.size w2 wx → wx.cell? ⟨w.heap.size, 2, none⟩ = some (.slice fo fn fc) := fun wx h => keep c2 h
  have m3 : ∀ wx, Below w2.heap.size w2 wx → wx.cell? ⟨w.heap.size, 3, none⟩ = some (.slice (some ⟨b, o, none⟩) tn tc) := fun wx h => keep c3 h
  have m4 : ∀ wx, Below w2.heap.size w2 wx → wx.cell? ⟨b, o + K, none⟩ = some (.int .i64 x) := fun wx h => keep cx h
  have HG : Hid (∀ W, Below w2.heap.size w2 W → Calls Tryd.prog 37 #[.agg #[.int .i64 z.f, .int .i64 z.t, .slice fo fn fc, .slice (some ⟨b, o, none⟩) tn tc], .int .i64 a] W fun e w' => e = .returned (.int .i64 K) ∧ Below w2.heap.size w2 w') := fun W hS => by
    rw [← hK]
    refine (group_any W z.f z.t fo _ fn fc tn tc a n1 ha.1 (by omega)).mono ?_
    rintro e w' ⟨rfl, hb⟩
    exact ⟨rfl, hS.trans (hb.mono hS.size)⟩
  have S0 : Below w2.heap.size w2 w2 := Below.refl _ _
  have hB2 := I2.b
  clear HT hX hK I2 c0 c1 c2 c3 cx
  go_wp2_with fail
  go_region_held3 (fun wx => Below w2.heap.size w2 wx) (first | assumption | exact Below.drew (by assumption))
    (first
      | (go_at_call 37; refine (HG.out _ ?_).mono ?_; assumption; rintro e w3 ⟨rfl, hS3⟩))
  all_goals
    have hbb := hB2.trans (hS3.mono hB2.size)
    clear HG m0 m1 m2 m3 m4 S0
    go_wp2
    go_ret2
    exact ⟨by rw [HT2.out]; rfl, hbb⟩

set_option maxHeartbeats 1000000 in
theorem zTypeAt_range (w : World) (fo : Option Addr) (fn fc : Nat) (to_ : Option Addr) (tn tc : Nat) (z : Zn) (a : Int) (h : ZnAt w fo fn to_ tn z) (hM : ZMay z) (ha : ¬ (z.f ≤ a ∧ a ≤ z.t - 1)) :
    Calls Tryd.prog 21 #[.agg #[.int .i64 z.f, .int .i64 z.t, .slice fo fn fc, .slice to_ tn tc], .int .i64 a] w fun e w' => e = .returned (.tuple #[.int .i64 0, .int .i64 1]) ∧ Below w.heap.size w w' := by
  have I0 := ckInv_first w fo fn fc to_ tn tc z h
  have c0 := I0.box.c0
  have c1 := I0.box.c1
  have c2 := I0.box.c2
  have c3 := I0.box.c3
  have e2 : Hid (inB a z.f (z.t - 1) = false) := inB_f ha
  clear h ha
  go_enter Tryd.func21, Tryd.ntmps21
  go_wp2_with fail
  go_at_call 25
  refine (zCheck_ok _ fo fn fc to_ tn tc z I0.zn hM).mono ?_
  rintro e w1 ⟨rfl, hb1⟩
  have I1 := I0.step hb1
  clear I0 c0 c1 c2 c3 hb1 hM
  have c0 := I1.box.c0
  have c1 := I1.box.c1
  have c2 := I1.box.c2
  have c3 := I1.box.c3
  go_wp2_with fail
  go_at_call 36
  refine (isPage_any _ _ _ _ _ _ _ _ _ _).mono ?_
  rintro e w2 ⟨rfl, hb2⟩
  rw [e2.out]
  have hbb := (I1.step hb2).b
  clear I1 c0 c1 c2 c3 hb2
  go_wp2
  go_ret2
  exact ⟨rfl, hbb⟩

set_option maxHeartbeats 1000000 in
theorem zTypeAt_no (w : World) (fo : Option Addr) (fn fc : Nat) (to_ : Option Addr) (tn tc : Nat) (z : Zn) (a : Int) (h : ZnAt w fo fn to_ tn z) (hf : ZFits z) (hM : ¬ ZMay z) :
    Calls Tryd.prog 21 #[.agg #[.int .i64 z.f, .int .i64 z.t, .slice fo fn fc, .slice to_ tn tc], .int .i64 a] w fun e w' => e = .returned (.tuple #[.int .i64 0, .int .i64 8]) ∧ Below w.heap.size w w' := by
  have I0 := ckInv_first w fo fn fc to_ tn tc z h
  have c0 := I0.box.c0
  have c1 := I0.box.c1
  have c2 := I0.box.c2
  have c3 := I0.box.c3
  clear h
  go_enter Tryd.func21, Tryd.ntmps21
  go_wp2_with fail
  go_at_call 25
  refine (zCheck_no _ fo fn fc to_ tn tc z I0.zn hf hM).mono ?_
  rintro e w1 ⟨rfl, hb1⟩
  have hbb := (I0.step hb1).b
  clear I0 c0 c1 c2 c3 hb1 hM hf
  go_wp2
  go_ret2
  exact ⟨rfl, hbb⟩

end Go.Proofs.YtffhpjjioefaeafDoor

/-
  OWN TEXT. The walk of the law ZoneTwice: it returns true and writes nothing that was there.
-/
namespace Go.Proofs.YtffhpjjioefaeafDoor
open Go Go.RowKit Go.Proofs.YtffhpjjioefaeafDoor.Kit

/-- Has a block the page? -/
def pageIn (p : Int) (b : Bk) : Bool := decide (b.a ≤ p ∧ p < b.a + pw b.o)

set_option maxHeartbeats 2000000 in
theorem twiceF_any (W : World) (b1 : Nat) (p : Int) (ba bo bt : Int) (c1 : W.cell? ⟨b1, 0, none⟩ = some (.int .i64 p)) (ho : ordOk bo) (h0 : 0 ≤ ba) (h1 : ba ≤ 256) :
    Calls Tryd.prog 19 (#[.agg #[.int .i64 ba, .int .i64 bo, .int .i64 bt]] ++ #[.pointer (some ⟨b1, 0, none⟩)]) W fun e W' => e = .returned (.bool (pageIn p ⟨ba, bo, bt⟩)) ∧ Below W.heap.size W W' := by
  have hb0 := below_box W (.cells #[.int .i64 ba, .int .i64 bo, .int .i64 bt] 32)
  have d1 := keep c1 hb0
  have l0 : (W.alloc (.cells #[.int .i64 ba, .int .i64 bo, .int .i64 bt] 32)).cell? ⟨W.heap.size, 0, none⟩ = some (.int .i64 ba) := by go_simp
  have l1 : (W.alloc (.cells #[.int .i64 ba, .int .i64 bo, .int .i64 bt] 32)).cell? ⟨W.heap.size, 1, none⟩ = some (.int .i64 bo) := by go_simp
  obtain ⟨W0, hW0⟩ : ∃ W0, W.alloc (.cells #[.int .i64 ba, .int .i64 bo, .int .i64 bt] 32) = W0 := ⟨_, rfl⟩
  rw [hW0] at hb0 d1 l0 l1
  have HW0 : Hid _ := hW0
  have hw1 := wrap_pw bo ho
  have hp1 := pw_pos bo
  have hp2 := pw_le (o := bo) ho
  obtain ⟨o0, o4⟩ := ho
  have HP : Hid (pageIn p ⟨ba, bo, bt⟩ = decide (ba ≤ p ∧ p < ba + pw bo)) := rfl
  obtain ⟨P, hP⟩ : ∃ P, pw bo = P := ⟨_, rfl⟩
  rw [hP] at hw1 hp1 hp2 HP
  have hw2 : IntKind.i64.wrap (ba + P) = ba + P := IntWalk.i64_in _ (by omega)
  clear c1 hW0 hP
  by_cases g1 : ba ≤ p
  · have g1' : decide (ba ≤ p) = true := decide_eq_true g1
    have HF : Hid (decide (p < ba + P) = pageIn p ⟨ba, bo, bt⟩) := by show _ = _; rw [HP.out]; simp [g1]
    clear HP
    go_enter Tryd.func19, Tryd.ntmps19
    go_wp2_with (rw [HW0.out])
    go_quiet (fail)
    go_wp2
    go_ret
    exact ⟨ret_bool HF.out, hb0.trans ((below_drawn (w := W0) nq).mono hb0.size)⟩
  · have g1' : decide (ba ≤ p) = false := decide_eq_false g1
    have HF : Hid (false = pageIn p ⟨ba, bo, bt⟩) := by show _ = _; rw [HP.out]; simp [g1]
    clear HP
    go_enter Tryd.func19, Tryd.ntmps19
    go_wp2_with (rw [HW0.out])
    go_quiet (fail)
    go_wp2
    go_ret
    exact ⟨ret_bool HF.out, hb0.trans ((below_drawn (w := W0) nq).mono hb0.size)⟩

theorem twiceF_call (args : Array Value) (W : World) : (callFunc 19 args).run Tryd.prog W = .ok (.enter 19 args) W := by kernel_rfl

theorem any_ovl (l : List Bk) (p : Int) : l.any (pageIn p) = true ↔ ovlP l p 0 := by
  rw [List.any_eq_true]
  constructor
  · rintro ⟨b, hb, hg⟩
    obtain ⟨i, hi, rfl⟩ := List.getElem_of_mem hb
    obtain ⟨h1, h2⟩ := of_decide_eq_true hg
    have e : l.getD i .zero = l[i] := by rw [List.getD_eq_getElem?_getD, List.getElem?_eq_getElem hi]; rfl
    exact ⟨i, hi, by rw [e, pw_0]; omega, by rw [e]; exact h2⟩
  · rintro ⟨i, hi, h1, h2⟩
    rw [pw_0] at h1
    exact ⟨_, getD_mem hi, decide_eq_true ⟨by omega, h2⟩⟩

/-- Back answers a zone, whatever it be, and the code c. -/
theorem back_code (w : World) (fo : Option Addr) (fn fc : Nat) (to_ : Option Addr) (tn tc : Nat) (z : Zn) (p : Nat) (c : Int) (h : ZnAt w fo fn to_ tn z) (hM : ZMay z) (hf : z.f = 16) (ht : z.t = 112) (hp : p < 256)
    (hc : (((p : Int) < 16 ∨ 112 ≤ (p : Int)) ∧ c = 1) ∨ (16 ≤ (p : Int) ∧ (p : Int) < 112 ∧ z.free.any (pageIn p) = true ∧ c = 5) ∨ (16 ≤ (p : Int) ∧ (p : Int) < 112 ∧ z.free.any (pageIn p) = false ∧ c = 0)) :
    Calls Tryd.prog 11 #[.agg #[.int .i64 z.f, .int .i64 z.t, .slice fo fn fc, .slice to_ tn tc], .int .i64 (p : Int), .int .i64 0] w fun e w' => (∃ x y so sn sc uo un uc, e = .returned (.tuple #[.agg #[.int .i64 x, .int .i64 y, .slice so sn sc, .slice uo un uc], .int .i64 c])) ∧ Below w.heap.size w w' := by
  have hin : 16 ≤ (p : Int) → (p : Int) < 112 → blkIn z.f z.t p 0 := fun h1 h2 => page_in (by omega) (by omega)
  rcases hc with ⟨h1, rfl⟩ | ⟨h1, h2, h3, rfl⟩ | ⟨h1, h2, h3, rfl⟩
  · refine (zBack_range w fo fn fc to_ tn tc z p 0 h (by simp [Lit.wf, IntKind.min, IntKind.max, IntKind.signed, IntKind.bits]; omega) (by decide) hM (fun g => ?_)).mono ?_
    · obtain ⟨_, g1, g2, _⟩ := g
      omega
    · rintro e w' ⟨he, hb⟩
      exact ⟨⟨_, _, _, _, _, _, _, _, he⟩, hb⟩
  · refine (zBack_twice w fo fn fc to_ tn tc z p 0 h hM (hin h1 h2) ((any_ovl _ _).1 h3)).mono ?_
    rintro e w' ⟨he, hb⟩
    exact ⟨⟨_, _, _, _, _, _, _, _, he⟩, hb⟩
  · refine (zBack_ok w fo fn fc to_ tn tc z p 0 h hM (hin h1 h2) (fun g => by rw [(any_ovl _ _).2 g] at h3; cases h3)).mono ?_
    rintro e w' ⟨⟨so, sn, sc, uo, un, uc, he, _⟩, hb⟩
    exact ⟨⟨_, _, _, _, _, _, _, _, he⟩, hb⟩

/-- What the sum's loop holds. -/
structure TwI (w : World) (zb : Nat) (fo : Option Addr) (fn fc : Nat) (to_ : Option Addr) (tn tc : Nat) (z : Zn) (W : World) : Prop where
  b : Below w.heap.size w W
  zn : ZnAt W fo fn to_ tn z
theorem TwI.step {w : World} {zb : Nat} {fo : Option Addr} {fn fc : Nat} {to_ : Option Addr} {tn tc : Nat} {z : Zn} {W W' : World} (h : TwI w zb fo fn fc to_ tn tc z W) (hb : Below W.heap.size W W') : TwI w zb fo fn fc to_ tn tc z W' := ⟨h.b.trans (hb.mono h.b.size), h.zn.below hb⟩

set_option maxRecDepth 4000 in
set_option maxHeartbeats 8000000 in
theorem zoneTwice_walk (ao : Option Addr) (n cap : Nat) (l : List Raw4) (at_ : Int) (w : World) (h : IsRaws w ao n cap l) (wf : (Lit.int .i64 at_).wf = true) (hT : TabAt w) :
    Calls Tryd.prog 6 #[.slice ao n cap, .int .i64 at_] w fun e w' => e = .returned (.bool true) ∧ Below w.heap.size w w' := by
  go_enter Tryd.func6, Tryd.ntmps6
  go_wp2_with fail
  go_at_call 8
  refine (zoned_any w ao n cap l h 40 (by omega) hT).mono ?_
  rintro e w1 ⟨z, aw, fo, fn, fc, to_, tn, tc, ro, m, rcap, rfl, hz, _, hZ, _, _, hb1⟩
  have hbx := below_box w1 (.cells #[.int .i64 z.f, .int .i64 z.t, .slice fo fn fc, .slice to_ tn tc] 26)
  have B1 := zbox_new w1 (.int .i64 z.f) (.int .i64 z.t) (.slice fo fn fc) (.slice to_ tn tc) 26
  have z1 := hz.below hbx
  have hB1 := hb1.trans (hbx.mono hb1.size)
  obtain ⟨W1, hW1⟩ : ∃ W1, w1.alloc (.cells #[.int .i64 z.f, .int .i64 z.t, .slice fo fn fc, .slice to_ tn tc] 26) = W1 := ⟨_, rfl⟩
  rw [hW1] at B1 z1 hB1
  have HW1 : Hid _ := hW1
  clear hW1 hbx hz hb1 h
  go_wp2_with (rw [HW1.out])
  go_at_call 14
  refine (picked_fn at_ 256 256 rfl wf (by omega) (by omega) _).mono ?_
  rintro e wq ⟨rfl, rfl⟩
  have hp := pickN_lt at_ 256 (by omega)
  generalize pickN at_ 256 = p at hp
  have hbp := below_box W1 (.cells #[.int .i64 (p : Int)] 3)
  have B2 := B1.below hbp
  have z2 := z1.below hbp
  have hB2 := hB1.trans (hbp.mono hB1.size)
  have cp : (W1.alloc (.cells #[.int .i64 (p : Int)] 3)).cell? ⟨W1.heap.size, 0, none⟩ = some (.int .i64 (p : Int)) := by go_simp
  obtain ⟨W2, hW2⟩ : ∃ W2, W1.alloc (.cells #[.int .i64 (p : Int)] 3) = W2 := ⟨_, rfl⟩
  rw [hW2] at B2 z2 hB2 cp
  have HW2 : Hid _ := hW2
  have c2 := B2.c2
  have hHold : HoldsB 19 #[.pointer (some ⟨W1.heap.size, 0, none⟩)] z.free (pageIn p) W2 := fun i hi W hb => by
    obtain ⟨q1, q2, q3, _⟩ := (freeOk_at hZ.may.free hi rfl).1
    have := hZ.f
    have := hZ.t
    exact twiceF_any W _ (p : Int) _ _ _ (keep cp hb) q1 (by omega) (by omega)
  have HCt := bContains_any W2 19 #[.pointer (some ⟨W1.heap.size, 0, none⟩)] fo fn fc z.free (pageIn p) z2.free twiceF_call hHold
  clear hW2 hbp hHold HW1 B1 z1
  go_wp2_with (rw [HW2.out])
  go_at_call 16
  refine HCt.mono ?_
  rintro e w3 ⟨rfl, hb3⟩
  have z3 := z2.below hb3
  have B3 := B2.below hb3
  have hB3 := hB2.trans (hb3.mono hB2.size)
  have cp3 := keep cp hb3
  obtain ⟨A, hA⟩ : ∃ A, z.free.any (pageIn p) = A := ⟨_, rfl⟩
  rw [hA]
  obtain ⟨c, hc⟩ : ∃ c : Int, ((p : Int) < 16 ∧ c = 1) ∨ (¬ ((p : Int) < 16) ∧ 112 ≤ (p : Int) ∧ c = 1) ∨ (¬ ((p : Int) < 16) ∧ ¬ (112 ≤ (p : Int)) ∧ A = true ∧ c = 5) ∨ (¬ ((p : Int) < 16) ∧ ¬ (112 ≤ (p : Int)) ∧ A = false ∧ c = 0) := by
    by_cases g1 : (p : Int) < 16
    · exact ⟨1, .inl ⟨g1, rfl⟩⟩
    · by_cases g2 : 112 ≤ (p : Int)
      · exact ⟨1, .inr (.inl ⟨g1, g2, rfl⟩)⟩
      · cases A with
        | true => exact ⟨5, .inr (.inr (.inl ⟨g1, g2, rfl, rfl⟩))⟩
        | false => exact ⟨0, .inr (.inr (.inr ⟨g1, g2, rfl, rfl⟩))⟩
  have HBk := back_code w3 fo fn fc to_ tn tc z p c z3 hZ.may hZ.f hZ.t hp (by
    rw [hA]
    rcases hc with ⟨g1, g2⟩ | ⟨g1, g2, g3⟩ | ⟨g1, g2, g3, g4⟩ | ⟨g1, g2, g3, g4⟩
    · exact .inl ⟨.inl g1, g2⟩
    · exact .inl ⟨.inr g2, g3⟩
    · exact .inr (.inl ⟨by omega, by omega, g3, g4⟩)
    · exact .inr (.inr ⟨by omega, by omega, g3, g4⟩))
  clear hA HCt c2 z2 B2 cp HW2
  have c0 := B3.c0
  have c1 := B3.c1
  have c2 := B3.c2
  have c3 := B3.c3
  go_wp2_with fail
  go_at_call 11
  refine HBk.mono ?_
  rintro e w4 ⟨⟨x, y, so, sn, sc, uo, un, uc, rfl⟩, hb4⟩
  have hbx := below_box w4 (.cells #[.int .i64 x, .int .i64 y, .slice so sn sc, .slice uo un uc] 26)
  have z5 := (z3.below hb4).below hbx
  have B5 := (B3.below hb4).below hbx
  have hB4 := hB3.trans (hb4.mono hB3.size)
  have hB5 := hB4.trans (hbx.mono hB4.size)
  have cp5 := keep (keep cp3 hb4) hbx
  obtain ⟨W5, hW5⟩ : ∃ W5, w4.alloc (.cells #[.int .i64 x, .int .i64 y, .slice so sn sc, .slice uo un uc] 26) = W5 := ⟨_, rfl⟩
  rw [hW5] at z5 B5 hB5 cp5
  have HW5 : Hid _ := hW5
  have HPg := zPages_ok W5 fo fn fc to_ tn tc z z5 hZ.may
  clear c0 c1 c2 c3 hW5 hbx HBk B3 z3 cp3 hB4
  have c0 := B5.c0
  have c1 := B5.c1
  have c2 := B5.c2
  have c3 := B5.c3
  obtain ⟨n1, n2, n3, n4, n5⟩ := hZ.may.new
  have hF := hZ.may.free
  have hfl := z5.free.len
  have hfr := z5.free.reach
  rcases hc with ⟨g1, rfl⟩ | ⟨g1, g2, rfl⟩ | ⟨g1, g2, rfl, rfl⟩ | ⟨g1, g2, rfl, rfl⟩
  all_goals
    go_wp2_with (rw [HW5.out])
    go_at_call 20
    refine HPg.mono ?_
    rintro e w6 ⟨rfl, hb6⟩
    have I0 : TwI w w1.heap.size fo fn fc to_ tn tc z w6 := ⟨hB5.trans (hb6.mono hB5.size), z5.below hb6⟩
    have B6 := B5.below hb6
    clear c0 c1 c2 c3 HPg HW5
    have c2 := B6.c2
    go_wp2_with fail
    clear c2 B5 B6 z5 cp5 hB5 hb6
    go_loopw [15, 51] (fun nv iv wr => ∃ k : Nat, k ≤ fn ∧ iv = .int .i64 k ∧ nv = .int .i64 (freeN (z.free.take k)) ∧ TwI w w1.heap.size fo fn fc to_ tn tc z wr) (fun _ iv _ => fn - (intOf iv).toNat)
    case atStart => exact ⟨0, Nat.zero_le _, rfl, rfl, I0⟩
    case round =>
      obtain ⟨k, hk, rfl, rfl, I⟩ := hrel
      clear I0
      by_cases hlt : k < fn
      · obtain ⟨bb, bf, x, y, u, rfl, x0, x1, x2, hX⟩ := I.zn.free.at_.at k (by omega)
        have htk := take_getD z.free k (by omega) hX.out
        have hB := (freeOk_at hF (by omega) hX.out).1
        have hle : FreeOk z.f z.t z.f none (z.free.take k) := by rw [← List.take_append_drop k z.free] at hF; exact freeOk_left hF
        have hbd := freeN_le hle n5 n2
        have hbx := below_box wr (.cells #[.int .i64 x, .int .i64 y, .int .i64 u] 32)
        have I3 := I.step hbx
        have HS : Hid (freeN (z.free.take (k + 1)) = freeN (z.free.take k) + pw y) := by show _ = _; rw [htk, freeN_snoc]
        obtain ⟨S, hS⟩ : ∃ S, freeN (z.free.take k) = S := ⟨_, rfl⟩
        rw [hS] at hbd HS ⊢
        clear hS htk hle I hbx hF hX
        have hy := hB.1
        clear hB
        rcases ord_cases hy with ⟨rfl, e⟩ | ⟨rfl, e⟩ | ⟨rfl, e⟩ | ⟨rfl, e⟩ | ⟨rfl, e⟩
        all_goals
          clear hy
          have HS2 := HS.out
          rw [e] at HS2
          have HS3 : Hid _ := HS2
          clear HS2 e HS
          go_wp2
          go_roundw
          case rel => exact ⟨k + 1, by omega, by go_num, by rw [HS3.out], I3⟩
          case measure => simp [intOf]; omega
      · have HE : Hid (z.free.take k = z.free) := List.take_of_length_le (by omega)
        have hbb := I.b
        rw [HE.out]
        go_wp2
        go_ret
        exact ⟨rfl, hbb⟩

end Go.Proofs.YtffhpjjioefaeafDoor
