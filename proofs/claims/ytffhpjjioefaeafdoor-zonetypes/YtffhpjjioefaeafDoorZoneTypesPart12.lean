/-
  OWN TEXTS, bundled: ZTyp, ZcPages, ZFulP, ZStZ, WZoneTypes.
-/
import Derived.Test.YtffhpjjioefaeafDoorPart2
import Derived.Test.YtffhpjjioefaeafDoorPart4
import Derived.Test.YtffhpjjioefaeafDoorPart6
import Derived.Test.YtffhpjjioefaeafDoorPart3
import Derived.KernelRfl
import Derived.Test.YtffhpjjioefaeafDoorPart11

/-
  OWN TEXT. The type of a page's group.
-/
namespace Go.Proofs.YtffhpjjioefaeafDoor.Kit

/-- The type of the group of a page. -/
def typeZ (z : Zn) (a : Int) : Int := z.types.getD ((a - z.f) / 8).toNat 0

end Go.Proofs.YtffhpjjioefaeafDoor.Kit

/-
  OWN TEXT. Contracts of the code: buddy.Pages, buddy.TypeAt.
-/
namespace Go.Proofs.YtffhpjjioefaeafDoor
open Go Go.RowKit Go.Proofs.YtffhpjjioefaeafDoor.Kit

set_option maxHeartbeats 2000000 in
theorem zPages_ok (w : World) (fo : Option Addr) (fn fc : Nat) (to_ : Option Addr) (tn tc : Nat) (z : Zn) (h : ZnAt w fo fn to_ tn z) (hM : ZMay z) :
    Calls Tryd.prog 20 #[.agg #[.int .i64 z.f, .int .i64 z.t, .slice fo fn fc, .slice to_ tn tc]] w fun e w' => e = .returned (.tuple #[.int .i64 (freeN z.free), .int .i64 0]) ∧ Below w.heap.size w w' := by
  have I0 := ckInv_first w fo fn fc to_ tn tc z h
  have c0 := I0.box.c0
  have c1 := I0.box.c1
  have c2 := I0.box.c2
  have c3 := I0.box.c3
  have hfl := h.free.len
  have hfr := h.free.reach
  clear h
  obtain ⟨n1, n2, n3, n4, n5⟩ := hM.new
  have hF := hM.free
  go_enter Tryd.func20, Tryd.ntmps20
  go_wp2_with fail
  go_at_call 25
  refine (zCheck_ok _ fo fn fc to_ tn tc z I0.zn hM).mono ?_
  rintro e w1 ⟨rfl, hb1⟩
  have I1 := I0.step hb1
  clear I0 c0 c1 c2 c3 hb1 hM
  have c2 := I1.box.c2
  go_wp2
  clear c2
  go_loopw [5, 16] (fun nv iv wr => ∃ k : Nat, k ≤ fn ∧ iv = .int .i64 k ∧ nv = .int .i64 (freeN (z.free.take k)) ∧ CkInv w fo fn fc to_ tn tc z wr) (fun _ iv _ => fn - (intOf iv).toNat)
  case atStart => exact ⟨0, Nat.zero_le _, rfl, rfl, I1⟩
  case round =>
    obtain ⟨k, hk, rfl, rfl, I⟩ := hrel
    clear I1
    by_cases hlt : k < fn
    · obtain ⟨bb, bf, x, y, u, rfl, x0, x1, x2, hX⟩ := I.zn.free.at_.at k (by omega)
      have htk := take_getD z.free k (by omega) hX.out
      have hB := (freeOk_at hF (by omega) hX.out).1
      have hle : FreeOk z.f z.t z.f none (z.free.take k) := by rw [← List.take_append_drop k z.free] at hF; exact freeOk_left hF
      have hbd := freeN_le hle n5 n2
      have hbx := below_box wr (.cells #[.int .i64 x, .int .i64 y, .int .i64 u] 32)
      have I3 := I.step hbx
      have HS : Hid (freeN (z.free.take (k + 1)) = freeN (z.free.take k) + pw y) := by show _ = _; rw [htk, freeN_snoc]
      obtain ⟨S, hS⟩ : ∃ S, freeN (z.free.take k) = S := ⟨_, rfl⟩
      rw [hS] at hbd HS ⊢
      clear hS htk hle I hbx hF hX
      have hy := hB.1
      clear hB
      rcases ord_cases hy with ⟨rfl, e⟩ | ⟨rfl, e⟩ | ⟨rfl, e⟩ | ⟨rfl, e⟩ | ⟨rfl, e⟩
      all_goals
        clear hy
        have HS2 := HS.out
        rw [e] at HS2
        have HS3 : Hid _ := HS2
        clear HS2 e HS
        go_wp2
        go_roundw
        case rel => exact ⟨k + 1, by omega, by go_num, by rw [HS3.out], I3⟩
        case measure => simp [intOf]; omega
    · have HE : Hid (z.free.take k = z.free) := List.take_of_length_le (by omega)
      have hbb := I.b
      rw [HE.out]
      go_wp2
      go_ret2
      exact ⟨rfl, hbb⟩

set_option maxHeartbeats 1000000 in
theorem zPages_no (w : World) (fo : Option Addr) (fn fc : Nat) (to_ : Option Addr) (tn tc : Nat) (z : Zn) (h : ZnAt w fo fn to_ tn z) (hf : ZFits z) (hM : ¬ ZMay z) :
    Calls Tryd.prog 20 #[.agg #[.int .i64 z.f, .int .i64 z.t, .slice fo fn fc, .slice to_ tn tc]] w fun e w' => e = .returned (.tuple #[.int .i64 0, .int .i64 8]) ∧ Below w.heap.size w w' := by
  have I0 := ckInv_first w fo fn fc to_ tn tc z h
  have c0 := I0.box.c0
  have c1 := I0.box.c1
  have c2 := I0.box.c2
  have c3 := I0.box.c3
  clear h
  go_enter Tryd.func20, Tryd.ntmps20
  go_wp2_with fail
  go_at_call 25
  refine (zCheck_no _ fo fn fc to_ tn tc z I0.zn hf hM).mono ?_
  rintro e w1 ⟨rfl, hb1⟩
  have hbb := (I0.step hb1).b
  clear I0 c0 c1 c2 c3 hb1 hM hf
  go_wp2
  go_ret2
  exact ⟨rfl, hbb⟩

set_option maxHeartbeats 1000000 in
theorem zTypeAt_ok (w : World) (fo : Option Addr) (fn fc : Nat) (to_ : Option Addr) (tn tc : Nat) (z : Zn) (a : Int) (h : ZnAt w fo fn to_ tn z) (hM : ZMay z) (ha : z.f ≤ a ∧ a ≤ z.t - 1) :
    Calls Tryd.prog 21 #[.agg #[.int .i64 z.f, .int .i64 z.t, .slice fo fn fc, .slice to_ tn tc], .int .i64 a] w fun e w' => e = .returned (.tuple #[.int .i64 (typeZ z a), .int .i64 0]) ∧ Below w.heap.size w w' := by
  have I0 := ckInv_first w fo fn fc to_ tn tc z h
  have c0 := I0.box.c0
  have c1 := I0.box.c1
  have c2 := I0.box.c2
  have c3 := I0.box.c3
  have e2 : Hid (inB a z.f (z.t - 1) = true) := inB_t ha
  obtain ⟨n1, n2, n3, n4, n5⟩ := hM.new
  have hlen := hM.len
  have htl := h.types.len
  have htr := h.types.reach
  obtain ⟨K, hK⟩ : ∃ K : Nat, (a - z.f) / 8 = (K : Int) := ⟨((a - z.f) / 8).toNat, by omega⟩
  have hKn : K < tn := by omega
  have hKi : (K : Int) < (tn : Int) := by omega
  have HT : Hid (typeZ z a = z.types.getD K 0) := by show _ = _; unfold typeZ; rw [hK]; rfl
  clear h
  go_enter Tryd.func21, Tryd.ntmps21
  go_wp2_with fail
  go_at_call 25
  refine (zCheck_ok _ fo fn fc to_ tn tc z I0.zn hM).mono ?_
  rintro e w1 ⟨rfl, hb1⟩
  have I1 := I0.step hb1
  clear I0 c0 c1 c2 c3 hb1 hM
  have c0 := I1.box.c0
  have c1 := I1.box.c1
  have c2 := I1.box.c2
  have c3 := I1.box.c3
  go_wp2_with fail
  go_at_call 36
  refine (isPage_any _ _ _ _ _ _ _ _ _ _).mono ?_
  rintro e w2 ⟨rfl, hb2⟩
  rw [e2.out]
  have I2 := I1.step hb2
  clear I1 c0 c1 c2 c3 hb2
  have c0 := I2.box.c0
  have c1 := I2.box.c1
  have c2 := I2.box.c2
  have c3 := I2.box.c3
  obtain ⟨b, o, x, rfl, cx, hX⟩ := I2.zn.types.at_.at K (by omega)
  have HT2 : Hid (typeZ z a = x) := HT.out.trans hX.out
  have m0 : ∀ wx, Below w2.heap.size w2 wx → wx.cell? ⟨w.heap.size, 0, none⟩ = some (.int .i64 z.f) := fun wx h => keep c0 h
  have m1 : ∀ wx, Below w2.heap.size w2 wx → wx.cell? ⟨w.heap.size, 1, none⟩ = some (.int .i64 z.t) := fun wx h => keep c1 h
  have m2 : ∀ wx, Below w2.heap.size w2 wx → wx.cell? ⟨w.heap.size, 2, none⟩ = some (.slice fo fn fc) := fun wx h => keep c2 h
  have m3 : ∀ wx, Below w2.heap.size w2 wx → wx.cell? ⟨w.heap.size, 3, none⟩ = some (.slice (some ⟨b, o, none⟩) tn tc) := fun wx h => keep c3 h
  have m4 : ∀ wx, Below w2.heap.size w2 wx → wx.cell? ⟨b, o + K, none⟩ = some (.int .i64 x) := fun wx h => keep cx h
  have HG : Hid (∀ W, Below w2.heap.size w2 W → Calls Tryd.prog 37 #[.agg #[.int .i64 z.f, .int .i64 z.t, .slice fo fn fc, .slice (some ⟨b, o, none⟩) tn tc], .int .i64 a] W fun e w' => e = .returned (.int .i64 K) ∧ Below w2.heap.size w2 w') := fun W hS => by
    rw [← hK]
    refine (group_any W z.f z.t fo _ fn fc tn tc a n1 ha.1 (by omega)).mono ?_
    rintro e w' ⟨rfl, hb⟩
    exact ⟨rfl, hS.trans (hb.mono hS.size)⟩
  have S0 : Below w2.heap.size w2 w2 := Below.refl _ _
  have hB2 := I2.b
  clear HT hX hK I2 c0 c1 c2 c3 cx
  go_wp2_with fail
  go_region_held3 (fun wx => Below w2.heap.size w2 wx) (first | assumption | exact Below.drew (by assumption))
    (first
      | (go_at_call 37; refine (HG.out _ ?_).mono ?_; assumption; rintro e w3 ⟨rfl, hS3⟩))
  all_goals
    have hbb := hB2.trans (hS3.mono hB2.size)
    clear HG m0 m1 m2 m3 m4 S0
    go_wp2
    go_ret2
    exact ⟨by rw [HT2.out]; rfl, hbb⟩

set_option maxHeartbeats 1000000 in
theorem zTypeAt_range (w : World) (fo : Option Addr) (fn fc : Nat) (to_ : Option Addr) (tn tc : Nat) (z : Zn) (a : Int) (h : ZnAt w fo fn to_ tn z) (hM : ZMay z) (ha : ¬ (z.f ≤ a ∧ a ≤ z.t - 1)) :
    Calls Tryd.prog 21 #[.agg #[.int .i64 z.f, .int .i64 z.t, .slice fo fn fc, .slice to_ tn tc], .int .i64 a] w fun e w' => e = .returned (.tuple #[.int .i64 0, .int .i64 1]) ∧ Below w.heap.size w w' := by
  have I0 := ckInv_first w fo fn fc to_ tn tc z h
  have c0 := I0.box.c0
  have c1 := I0.box.c1
  have c2 := I0.box.c2
  have c3 := I0.box.c3
  have e2 : Hid (inB a z.f (z.t - 1) = false) := inB_f ha
  clear h ha
  go_enter Tryd.func21, Tryd.ntmps21
  go_wp2_with fail
  go_at_call 25
  refine (zCheck_ok _ fo fn fc to_ tn tc z I0.zn hM).mono ?_
  rintro e w1 ⟨rfl, hb1⟩
  have I1 := I0.step hb1
  clear I0 c0 c1 c2 c3 hb1 hM
  have c0 := I1.box.c0
  have c1 := I1.box.c1
  have c2 := I1.box.c2
  have c3 := I1.box.c3
  go_wp2_with fail
  go_at_call 36
  refine (isPage_any _ _ _ _ _ _ _ _ _ _).mono ?_
  rintro e w2 ⟨rfl, hb2⟩
  rw [e2.out]
  have hbb := (I1.step hb2).b
  clear I1 c0 c1 c2 c3 hb2
  go_wp2
  go_ret2
  exact ⟨rfl, hbb⟩

set_option maxHeartbeats 1000000 in
theorem zTypeAt_no (w : World) (fo : Option Addr) (fn fc : Nat) (to_ : Option Addr) (tn tc : Nat) (z : Zn) (a : Int) (h : ZnAt w fo fn to_ tn z) (hf : ZFits z) (hM : ¬ ZMay z) :
    Calls Tryd.prog 21 #[.agg #[.int .i64 z.f, .int .i64 z.t, .slice fo fn fc, .slice to_ tn tc], .int .i64 a] w fun e w' => e = .returned (.tuple #[.int .i64 0, .int .i64 8]) ∧ Below w.heap.size w w' := by
  have I0 := ckInv_first w fo fn fc to_ tn tc z h
  have c0 := I0.box.c0
  have c1 := I0.box.c1
  have c2 := I0.box.c2
  have c3 := I0.box.c3
  clear h
  go_enter Tryd.func21, Tryd.ntmps21
  go_wp2_with fail
  go_at_call 25
  refine (zCheck_no _ fo fn fc to_ tn tc z I0.zn hf hM).mono ?_
  rintro e w1 ⟨rfl, hb1⟩
  have hbb := (I0.step hb1).b
  clear I0 c0 c1 c2 c3 hb1 hM hf
  go_wp2
  go_ret2
  exact ⟨rfl, hbb⟩

end Go.Proofs.YtffhpjjioefaeafDoor

/-
  OWN TEXT. When there is a block: plain mathematics. The zone at the beginning, and what is taken of it.
-/
namespace Go.Proofs.YtffhpjjioefaeafDoor.Kit

theorem fidx_has {g : Bk → Bool} {l : List Bk} {b : Bk} (hb : b ∈ l) (hg : g b = true) : 0 ≤ fidx g l := by
  induction l with
  | nil => simp at hb
  | cons x l ih =>
    show 0 ≤ (if g x = true then (0 : Int) else if fidx g l < 0 then -1 else fidx g l + 1)
    by_cases hx : g x = true
    · rw [if_pos hx]; omega
    · rw [if_neg hx]
      have hm : b ∈ l := by
        rcases List.mem_cons.1 hb with rfl | hm
        · exact absurd hg hx
        · exact hm
      have := ih hm
      rw [if_neg (by omega)]
      omega

theorem upI_has {l : List Bk} {t : Int} : ∀ (n : Nat) (o : Int) (k : Nat), k < n → 0 ≤ fidx (isT (o + k) t) l → 0 ≤ upI l t n o := by
  intro n
  induction n with
  | zero => intro o k hk; omega
  | succ n ih =>
    intro o k hk hf
    unfold upI
    split
    · assumption
    · rename_i hno
      cases k with
      | zero => exact absurd (by simpa using hf) hno
      | succ k => exact ih (o + 1) k (by omega) (by rw [show o + 1 + (k : Int) = o + ((k + 1 : Nat) : Int) by omega]; exact hf)

theorem dnI_has {l : List Bk} {u v o : Int} : ∀ (n : Nat) (k : Nat), k < n → (0 ≤ fidx (isT (o + k) u) l ∨ 0 ≤ fidx (isT (o + k) v) l) → 0 ≤ dnI l u v o n := by
  intro n
  induction n with
  | zero => intro k hk; omega
  | succ n ih =>
    intro k hk hf
    unfold dnI
    split
    · assumption
    · split
      · assumption
      · rename_i h1 h2
        by_cases hkn : k = n
        · subst hkn
          rcases hf with hf | hf
          · exact absurd hf h1
          · exact absurd hf h2
        · exact ih k (by omega) hf

theorem choose_iff {l : List Bk} {o t : Int} (hl : ∀ b ∈ l, ordOk b.o ∧ typeOk b.t) (ho : ordOk o) (ht : typeOk t) : 0 ≤ chooseI l o t ↔ ∃ b ∈ l, o ≤ b.o := by
  constructor
  · intro h
    obtain ⟨i, _, hi, hob⟩ := choose_in h
    exact ⟨_, getD_mem hi, hob⟩
  · rintro ⟨b, hb, hob⟩
    obtain ⟨⟨b0, b4⟩, ⟨c0, c2⟩⟩ := hl b hb
    have hk : (b.o - o).toNat < (5 - o).toNat := by have := ho.1; omega
    have e : o + ((b.o - o).toNat : Int) = b.o := by omega
    unfold chooseI
    split
    · assumption
    · rename_i hno
      refine dnI_has _ (b.o - o).toNat hk ?_
      rw [e]
      by_cases h1 : b.t = t
      · exact absurd (upI_has _ o (b.o - o).toNat hk (by rw [e]; exact fidx_has hb (decide_eq_true ⟨rfl, h1⟩))) hno
      · obtain ⟨t0, t2⟩ := ht
        by_cases h2 : b.t = other1 t
        · exact .inl (fidx_has hb (decide_eq_true ⟨rfl, h2⟩))
        · refine .inr (fidx_has hb (decide_eq_true ⟨rfl, ?_⟩))
          unfold other1 at h2
          unfold other2
          split at h2 <;> split <;> omega

theorem may_ok {z : Zn} (h : ZMay z) : ∀ b ∈ z.free, ordOk b.o ∧ typeOk b.t := fun b hb => by
  obtain ⟨h1, h2⟩ := (free_iff.1 h.free).1 b hb
  exact ⟨h1.1, h2⟩

/-- The zone at the beginning. -/
def zone0 : Zn := ⟨16, 112, [⟨18, 1, 1⟩, ⟨20, 2, 1⟩, ⟨24, 3, 1⟩, ⟨32, 4, 1⟩, ⟨48, 4, 1⟩, ⟨64, 4, 1⟩, ⟨80, 4, 1⟩, ⟨96, 3, 1⟩, ⟨104, 2, 1⟩], [1, 1, 1, 1, 1, 1, 1, 1, 1, 1, 1, 1]⟩
set_option maxRecDepth 100000 in
theorem first_zone : firstZ = some zone0 := by kernel_rfl
theorem ch1 : chooseI zone0.free 3 1 = ((2 : Nat) : Int) := by kernel_rfl
theorem ch0 : chooseI zone0.free 3 0 = ((3 : Nat) : Int) := by kernel_rfl
theorem ch2 : chooseI zone0.free 3 2 = ((3 : Nat) : Int) := by kernel_rfl
theorem ch00 : chooseI (takeZ zone0 3 0 3).free 0 0 = ((3 : Nat) : Int) := by kernel_rfl
theorem ch22 : chooseI (takeZ zone0 3 2 3).free 0 2 = ((3 : Nat) : Int) := by kernel_rfl
theorem at1 : (zone0.free.getD 2 .zero).a = 24 := by kernel_rfl
theorem at0 : (zone0.free.getD 3 .zero).a = 32 := by kernel_rfl
theorem at00 : ((takeZ zone0 3 0 3).free.getD 3 .zero).a = 40 := by kernel_rfl
theorem at22 : ((takeZ zone0 3 2 3).free.getD 3 .zero).a = 40 := by kernel_rfl
theorem ty1 : typeZ (takeZ zone0 3 1 2) 24 = 1 := by kernel_rfl
theorem ty0 : typeZ (takeZ zone0 3 0 3) 32 = 0 := by kernel_rfl
theorem ty2 : typeZ (takeZ zone0 3 2 3) 32 = 2 := by kernel_rfl
theorem ty00 : typeZ (takeZ (takeZ zone0 3 0 3) 0 0 3) 40 = 0 := by kernel_rfl
theorem ty22 : typeZ (takeZ (takeZ zone0 3 2 3) 0 2 3) 40 = 2 := by kernel_rfl

end Go.Proofs.YtffhpjjioefaeafDoor.Kit

/-
  OWN TEXT. A zone's variable gets another zone.
-/
namespace Go.Proofs.YtffhpjjioefaeafDoor
open Go Go.RowKit Go.Proofs.YtffhpjjioefaeafDoor.Kit

/-- A zone's variable gets another zone, that was made since. -/
theorem store_zone {W V : World} {zb : Nat} {x y u v : Value} {z : Zn} {fo to_ : Option Addr} {fn fc tn tc : Nat} (hB : ZBox W zb x y u v) (hb : Below W.heap.size W V) (hz : ZnAt V fo fn to_ tn z) (f1 : Fresh W.heap.size fo) (f2 : Fresh W.heap.size to_) :
    Res4 V zb ∧ ZBox ((((V.setCell ⟨zb, 0, none⟩ (.int .i64 z.f)).setCell ⟨zb, 1, none⟩ (.int .i64 z.t)).setCell ⟨zb, 2, none⟩ (.slice fo fn fc)).setCell ⟨zb, 3, none⟩ (.slice to_ tn tc)) zb (.int .i64 z.f) (.int .i64 z.t) (.slice fo fn fc) (.slice to_ tn tc) ∧
      ZnAt ((((V.setCell ⟨zb, 0, none⟩ (.int .i64 z.f)).setCell ⟨zb, 1, none⟩ (.int .i64 z.t)).setCell ⟨zb, 2, none⟩ (.slice fo fn fc)).setCell ⟨zb, 3, none⟩ (.slice to_ tn tc)) fo fn to_ tn z ∧
      But zb V ((((V.setCell ⟨zb, 0, none⟩ (.int .i64 z.f)).setCell ⟨zb, 1, none⟩ (.int .i64 z.t)).setCell ⟨zb, 2, none⟩ (.slice fo fn fc)).setCell ⟨zb, 3, none⟩ (.slice to_ tn tc)) := by
  have hB' := hB.below hb
  have hbt := but4 V zb (.int .i64 z.f) (.int .i64 z.t) (.slice fo fn fc) (.slice to_ tn tc)
  exact ⟨hB'.res, hB'.set4 _ _ _ _, ZnAt.apt hz hbt (.fresh f1 hB.lt) (.fresh f2 hB.lt), hbt⟩

end Go.Proofs.YtffhpjjioefaeafDoor

/-
  OWN TEXT. The walk of the law ZoneTypes: it returns true and writes nothing that was there.
-/
namespace Go.Proofs.YtffhpjjioefaeafDoor
open Go Go.RowKit Go.Proofs.YtffhpjjioefaeafDoor.Kit

/-- What is to be known of a type. -/
structure TyF (K : Int) (i : Nat) (Y : Zn) (a : Int) : Prop where
  k : typeOk K
  ch : chooseI zone0.free 3 K = i
  y : takeZ zone0 3 K i = Y
  a_ : (zone0.free.getD i .zero).a = a
  ty : typeZ Y a = K
  ge : 16 ≤ a
  le : a ≤ 111
  yf : Y.f = 16
  yt : Y.t = 112

theorem zone0_may : ZMay zone0 := by
  obtain ⟨Y, e, h⟩ := zi_first
  rw [first_zone] at e
  cases e
  exact h.may
theorem TyF.may {K : Int} {i : Nat} {Y : Zn} {a : Int} (h : TyF K i Y a) : ZMay Y := by
  obtain ⟨Z, e, hZ⟩ := zi_first
  rw [first_zone] at e
  cases e
  have := (zi_take hZ (o := 3) ⟨by omega, by omega⟩ h.k h.ch).may
  rw [h.y] at this
  exact this

set_option maxHeartbeats 4000000 in
theorem zoneTypes_one (t : Int) (w : World) (wf : (Lit.int .i64 t).wf = true) (hT : TabAt w) (K : Nat) (hK : pickN t 3 = K) (i : Nat) (Y : Zn) (a : Int) (F : TyF (K : Int) i Y a) (hK1 : (((K : Nat) : Int) == 1) = true) :
    Calls Tryd.prog 7 #[.int .i64 t] w fun e w' => e = .returned (.bool true) ∧ Below w.heap.size w w' := by
  have hYM := F.may
  obtain ⟨k1, k2, k3, k4, k5, k6, k7, k8, k9⟩ := F
  have H2 : Hid _ := k2
  have H3 : Hid _ := k3
  have H4 : Hid _ := k4
  have H5 : Hid _ := k5
  have H8 : Hid _ := k8
  have H9 : Hid _ := k9
  have HK : Hid _ := hK
  clear k2 k3 k4 k5 k8 k9 hK
  go_enter Tryd.func7, Tryd.ntmps7
  go_wp2_with fail
  go_at_call 14
  refine (picked_fn t 3 3 rfl wf (by omega) (by omega) _).mono ?_
  rintro e wq ⟨rfl, rfl⟩
  rw [HK.out]
  go_wp2_with fail
  go_at_call 8
  refine (zoned_any w none 0 0 [] ⟨rfl, by omega, by omega, RawsAt.nil _ _, fun i hi => by omega⟩ 0 (by omega) hT).mono ?_
  rintro e w1 ⟨z, aw, fo, fn, fc, to_, tn, tc, ro, m, rcap, rfl, hz, _, _, _, hz0, hb1⟩
  obtain rfl : z = zone0 := by have := (hz0 rfl).symm.trans first_zone; exact Option.some.inj this
  obtain ⟨Z, hZd⟩ : ∃ Z, zone0 = Z := ⟨_, rfl⟩
  have hZM := zone0_may
  have hT1 := hT.below hb1
  rw [hZd] at hz hZM
  have HZ : Hid _ := hZd
  rw [hZd]
  have hbx := below_box w1 (.cells #[.int .i64 Z.f, .int .i64 Z.t, .slice fo fn fc, .slice to_ tn tc] 26)
  have B1 := zbox_new w1 (.int .i64 Z.f) (.int .i64 Z.t) (.slice fo fn fc) (.slice to_ tn tc) 26
  have z1 := hz.below hbx
  have hB1 := hb1.trans (hbx.mono hb1.size)
  have hT2 := hT1.below hbx
  have hs1 := hb1.size
  obtain ⟨W1, hW1⟩ : ∃ W1, w1.alloc (.cells #[.int .i64 Z.f, .int .i64 Z.t, .slice fo fn fc, .slice to_ tn tc] 26) = W1 := ⟨_, rfl⟩
  rw [hW1] at B1 z1 hB1 hT2
  have HW1 : Hid _ := hW1
  have c0 := B1.c0
  have c1 := B1.c1
  have c2 := B1.c2
  have c3 := B1.c3
  have HTk := zTake_ok W1 fo fn fc to_ tn tc Z 3 (K : Int) i z1 hZM hT2 ⟨by omega, by omega⟩ k1 (by rw [← HZ.out]; exact H2.out)
  have e3 : takeZ Z 3 (K : Int) i = Y := by rw [← HZ.out]; exact H3.out
  have e4 : (Z.free.getD i .zero).a = a := by rw [← HZ.out]; exact H4.out
  rw [e3, e4] at HTk
  clear hW1 hbx hz hb1 hz0 hZd e3 e4 hT1 z1
  go_wp2_with (rw [HW1.out])
  go_at_call 15
  refine HTk.mono ?_
  rintro e w2 ⟨⟨fo2, fn2, fc2, to2, tn2, tc2, rfl, hz2, f1, f2⟩, hb2⟩
  obtain ⟨R2, B2, z2, bt2⟩ := store_zone (fc := fc2) (tc := tc2) B1 hb2 hz2 f1 f2
  have hB2 := (hB1.trans (hb2.mono hB1.size)).trans (bt2.below (by omega) (Nat.le_trans hB1.size hb2.size))
  have hT3 := hT.below hB2
  obtain ⟨⟨_, d0⟩, ⟨_, d1⟩, ⟨_, d2⟩, ⟨_, d3⟩, g0, g1, g2, g3⟩ := id R2
  obtain ⟨W2, hW2⟩ : ∃ W2, (((w2.setCell ⟨w1.heap.size, 0, none⟩ (.int .i64 Y.f)).setCell ⟨w1.heap.size, 1, none⟩ (.int .i64 Y.t)).setCell ⟨w1.heap.size, 2, none⟩ (.slice fo2 fn2 fc2)).setCell ⟨w1.heap.size, 3, none⟩ (.slice to2 tn2 tc2) = W2 := ⟨_, rfl⟩
  rw [hW2] at B2 z2 hB2 hT3
  have HW2 : Hid _ := hW2
  clear c0 c1 c2 c3 hW2 HTk HW1 B1 bt2 hz2 R2
  have c0 := B2.c0
  have c1 := B2.c1
  have c2 := B2.c2
  have c3 := B2.c3
  go_wp2_with (rw [HW2.out])
  go_at_call 21
  refine (zTypeAt_ok W2 fo2 fn2 fc2 to2 tn2 tc2 Y a z2 hYM ⟨by rw [H8.out]; exact k6, by rw [H9.out]; omega⟩).mono ?_
  rintro e w3 ⟨rfl, hb3⟩
  rw [H5.out]
  have hB3 := hB2.trans (hb3.mono hB2.size)
  clear d0 d1 d2 d3 g0 g1 g2 g3 HW2
  go_wp2
  go_ret
  exact ⟨rfl, hB3⟩

set_option maxHeartbeats 4000000 in
theorem zoneTypes_two (t : Int) (w : World) (wf : (Lit.int .i64 t).wf = true) (hT : TabAt w) (K : Nat) (hK : pickN t 3 = K) (i : Nat) (Y : Zn) (a : Int) (F : TyF (K : Int) i Y a) (hK1 : (((K : Nat) : Int) == 1) = false) (i2 : Nat) (Y2 : Zn) (a2 : Int) (m1 : chooseI Y.free 0 (K : Int) = i2) (m2 : takeZ Y 0 (K : Int) i2 = Y2) (m3 : (Y.free.getD i2 .zero).a = a2) (m4 : typeZ Y2 a2 = (K : Int)) (m5 : 16 ≤ a2) (m6 : a2 ≤ 111) (m7 : Y2.f = 16) (m8 : Y2.t = 112) (m9 : ZMay Y2) :
    Calls Tryd.prog 7 #[.int .i64 t] w fun e w' => e = .returned (.bool true) ∧ Below w.heap.size w w' := by
  have hYM := F.may
  obtain ⟨k1, k2, k3, k4, k5, k6, k7, k8, k9⟩ := F
  have H2 : Hid _ := k2
  have H3 : Hid _ := k3
  have H4 : Hid _ := k4
  have H5 : Hid _ := k5
  have H8 : Hid _ := k8
  have H9 : Hid _ := k9
  have HK : Hid _ := hK
  have M1 : Hid _ := m1
  have M2 : Hid _ := m2
  have M3 : Hid _ := m3
  have M4 : Hid _ := m4
  have M7 : Hid _ := m7
  have M8 : Hid _ := m8
  clear m1 m2 m3 m4 m7 m8
  clear k2 k3 k4 k5 k8 k9 hK
  go_enter Tryd.func7, Tryd.ntmps7
  go_wp2_with fail
  go_at_call 14
  refine (picked_fn t 3 3 rfl wf (by omega) (by omega) _).mono ?_
  rintro e wq ⟨rfl, rfl⟩
  rw [HK.out]
  go_wp2_with fail
  go_at_call 8
  refine (zoned_any w none 0 0 [] ⟨rfl, by omega, by omega, RawsAt.nil _ _, fun i hi => by omega⟩ 0 (by omega) hT).mono ?_
  rintro e w1 ⟨z, aw, fo, fn, fc, to_, tn, tc, ro, m, rcap, rfl, hz, _, _, _, hz0, hb1⟩
  obtain rfl : z = zone0 := by have := (hz0 rfl).symm.trans first_zone; exact Option.some.inj this
  obtain ⟨Z, hZd⟩ : ∃ Z, zone0 = Z := ⟨_, rfl⟩
  have hZM := zone0_may
  have hT1 := hT.below hb1
  rw [hZd] at hz hZM
  have HZ : Hid _ := hZd
  rw [hZd]
  have hbx := below_box w1 (.cells #[.int .i64 Z.f, .int .i64 Z.t, .slice fo fn fc, .slice to_ tn tc] 26)
  have B1 := zbox_new w1 (.int .i64 Z.f) (.int .i64 Z.t) (.slice fo fn fc) (.slice to_ tn tc) 26
  have z1 := hz.below hbx
  have hB1 := hb1.trans (hbx.mono hb1.size)
  have hT2 := hT1.below hbx
  have hs1 := hb1.size
  obtain ⟨W1, hW1⟩ : ∃ W1, w1.alloc (.cells #[.int .i64 Z.f, .int .i64 Z.t, .slice fo fn fc, .slice to_ tn tc] 26) = W1 := ⟨_, rfl⟩
  rw [hW1] at B1 z1 hB1 hT2
  have HW1 : Hid _ := hW1
  have c0 := B1.c0
  have c1 := B1.c1
  have c2 := B1.c2
  have c3 := B1.c3
  have HTk := zTake_ok W1 fo fn fc to_ tn tc Z 3 (K : Int) i z1 hZM hT2 ⟨by omega, by omega⟩ k1 (by rw [← HZ.out]; exact H2.out)
  have e3 : takeZ Z 3 (K : Int) i = Y := by rw [← HZ.out]; exact H3.out
  have e4 : (Z.free.getD i .zero).a = a := by rw [← HZ.out]; exact H4.out
  rw [e3, e4] at HTk
  clear hW1 hbx hz hb1 hz0 hZd e3 e4 hT1 z1
  go_wp2_with (rw [HW1.out])
  go_at_call 15
  refine HTk.mono ?_
  rintro e w2 ⟨⟨fo2, fn2, fc2, to2, tn2, tc2, rfl, hz2, f1, f2⟩, hb2⟩
  obtain ⟨R2, B2, z2, bt2⟩ := store_zone (fc := fc2) (tc := tc2) B1 hb2 hz2 f1 f2
  have hB2 := (hB1.trans (hb2.mono hB1.size)).trans (bt2.below (by omega) (Nat.le_trans hB1.size hb2.size))
  have hT3 := hT.below hB2
  obtain ⟨⟨_, d0⟩, ⟨_, d1⟩, ⟨_, d2⟩, ⟨_, d3⟩, g0, g1, g2, g3⟩ := id R2
  obtain ⟨W2, hW2⟩ : ∃ W2, (((w2.setCell ⟨w1.heap.size, 0, none⟩ (.int .i64 Y.f)).setCell ⟨w1.heap.size, 1, none⟩ (.int .i64 Y.t)).setCell ⟨w1.heap.size, 2, none⟩ (.slice fo2 fn2 fc2)).setCell ⟨w1.heap.size, 3, none⟩ (.slice to2 tn2 tc2) = W2 := ⟨_, rfl⟩
  rw [hW2] at B2 z2 hB2 hT3
  have HW2 : Hid _ := hW2
  clear c0 c1 c2 c3 hW2 HTk HW1 B1 bt2 hz2 R2
  have c0 := B2.c0
  have c1 := B2.c1
  have c2 := B2.c2
  have c3 := B2.c3
  go_wp2_with (rw [HW2.out])
  go_at_call 21
  refine (zTypeAt_ok W2 fo2 fn2 fc2 to2 tn2 tc2 Y a z2 hYM ⟨by rw [H8.out]; exact k6, by rw [H9.out]; omega⟩).mono ?_
  rintro e w3 ⟨rfl, hb3⟩
  rw [H5.out]
  have hB3 := hB2.trans (hb3.mono hB2.size)
  clear d0 d1 d2 d3 g0 g1 g2 g3 HW2
  have z3 := z2.below hb3
  have B3 := B2.below hb3
  have hT4 := hT3.below hb3
  clear c0 c1 c2 c3
  have c0 := B3.c0
  have c1 := B3.c1
  have c2 := B3.c2
  have c3 := B3.c3
  have HTk := zTake_ok w3 fo2 fn2 fc2 to2 tn2 tc2 Y 0 (K : Int) i2 z3 hYM hT4 ⟨by omega, by omega⟩ k1 M1.out
  rw [M2.out, M3.out] at HTk
  go_wp2_with fail
  go_at_call 15
  refine HTk.mono ?_
  rintro e w4 ⟨⟨fo4, fn4, fc4, to4, tn4, tc4, rfl, hz4, f3, f4⟩, hb4⟩
  obtain ⟨R4, B4, z4, bt4⟩ := store_zone (fc := fc4) (tc := tc4) B3 hb4 hz4 f3 f4
  have hB4 := (hB3.trans (hb4.mono hB3.size)).trans (bt4.below (by omega) (Nat.le_trans hB3.size hb4.size))
  obtain ⟨⟨_, d0⟩, ⟨_, d1⟩, ⟨_, d2⟩, ⟨_, d3⟩, g0, g1, g2, g3⟩ := id R4
  obtain ⟨W4, hW4⟩ : ∃ W4, (((w4.setCell ⟨w1.heap.size, 0, none⟩ (.int .i64 Y2.f)).setCell ⟨w1.heap.size, 1, none⟩ (.int .i64 Y2.t)).setCell ⟨w1.heap.size, 2, none⟩ (.slice fo4 fn4 fc4)).setCell ⟨w1.heap.size, 3, none⟩ (.slice to4 tn4 tc4) = W4 := ⟨_, rfl⟩
  rw [hW4] at B4 z4 hB4
  have HW4 : Hid _ := hW4
  clear c0 c1 c2 c3 hW4 HTk B3 bt4 hz4 R4
  have c0 := B4.c0
  have c1 := B4.c1
  have c2 := B4.c2
  have c3 := B4.c3
  go_wp2_with (rw [HW4.out])
  go_at_call 21
  refine (zTypeAt_ok W4 fo4 fn4 fc4 to4 tn4 tc4 Y2 a2 z4 m9 ⟨by rw [M7.out]; exact m5, by rw [M8.out]; omega⟩).mono ?_
  rintro e w5 ⟨rfl, hb5⟩
  rw [M4.out]
  have hB5 := hB4.trans (hb5.mono hB4.size)
  clear d0 d1 d2 d3 g0 g1 g2 g3 HW4
  go_wp2
  go_ret
  exact ⟨rfl, hB5⟩

theorem zoneTypes_walk (t : Int) (w : World) (wf : (Lit.int .i64 t).wf = true) (hT : TabAt w) :
    Calls Tryd.prog 7 #[.int .i64 t] w fun e w' => e = .returned (.bool true) ∧ Below w.heap.size w w' := by
  have hlt := pickN_lt t 3 (by omega)
  have F0 : TyF ((0 : Nat) : Int) 3 (takeZ zone0 3 0 3) 32 := ⟨⟨by omega, by omega⟩, ch0, rfl, at0, ty0, by omega, by omega, by kernel_rfl, by kernel_rfl⟩
  have F1 : TyF ((1 : Nat) : Int) 2 (takeZ zone0 3 1 2) 24 := ⟨⟨by omega, by omega⟩, ch1, rfl, at1, ty1, by omega, by omega, by kernel_rfl, by kernel_rfl⟩
  have F2 : TyF ((2 : Nat) : Int) 3 (takeZ zone0 3 2 3) 32 := ⟨⟨by omega, by omega⟩, ch2, rfl, at0, ty2, by omega, by omega, by kernel_rfl, by kernel_rfl⟩
  have next : ∀ {K : Int} {i : Nat} {Y : Zn} {a : Int} (i2 : Nat), TyF K i Y a → chooseI Y.free 0 K = i2 → ZMay (takeZ Y 0 K i2) := fun i2 F h => by
    obtain ⟨Z, e, hZ⟩ := zi_first
    rw [first_zone] at e
    cases e
    have h1 := zi_take hZ (o := 3) ⟨by omega, by omega⟩ F.k F.ch
    rw [F.y] at h1
    exact (zi_take h1 (o := 0) ⟨by omega, by omega⟩ F.k h).may
  rcases (show pickN t 3 = 0 ∨ pickN t 3 = 1 ∨ pickN t 3 = 2 by omega) with h | h | h
  · exact zoneTypes_two t w wf hT 0 h 3 _ 32 F0 (by decide) 3 _ 40 ch00 rfl at00 ty00 (by omega) (by omega) (by kernel_rfl) (by kernel_rfl) (next 3 F0 ch00)
  · exact zoneTypes_one t w wf hT 1 h 2 _ 24 F1 (by decide)
  · exact zoneTypes_two t w wf hT 2 h 3 _ 32 F2 (by decide) 3 _ 40 ch22 rfl at22 ty22 (by omega) (by omega) (by kernel_rfl) (by kernel_rfl) (next 3 F2 ch22)

end Go.Proofs.YtffhpjjioefaeafDoor
