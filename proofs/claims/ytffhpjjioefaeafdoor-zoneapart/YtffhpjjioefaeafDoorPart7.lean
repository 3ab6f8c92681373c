/-
  OWN TEXTS, bundled: ZcSteal, BDel, ZcJoin, BCon, BIns, BIns2, BIns3, BIns4, ZcPut.
-/
import Derived.Test.YtffhpjjioefaeafDoorPart6
import Derived.Test.YtffhpjjioefaeafDoorPart2
import Derived.Test.YtffhpjjioefaeafDoorPart3
import Derived.Deep.RegionHeld3
import Derived.Test.YtffhpjjioefaeafDoorPart5
import Derived.Deep.RegionWith

/-
  OWN TEXT. Contract of the code: buddy.steal.
-/
namespace Go.Proofs.YtffhpjjioefaeafDoor
open Go Go.RowKit Go.Proofs.YtffhpjjioefaeafDoor.Kit

/-- A store into a block of an owned row: its type. -/
theorem own_type {w : World} {base g n cap : Nat} {l : List Bk} (h : w.ownsRow base 32 3 (.slice (some ⟨g, 0, none⟩) n cap) n (bvals l)) {i : Nat} (hi : i < n) (x : Int) :
    w.cell? ⟨g, i * 3 + 2, none⟩ = some (.int .i64 (l.getD i .zero).t) ∧ w.frozen? ⟨g, i * 3 + 2, none⟩ = false ∧
    (w.setCell ⟨g, i * 3 + 2, none⟩ (.int .i64 x)).ownsRow base 32 3 (.slice (some ⟨g, 0, none⟩) n cap) n (bvals (l.set i ⟨(l.getD i .zero).a, (l.getD i .zero).o, x⟩)) := by
  have hl := bowns_len h
  refine ⟨by rw [h.cellAt _ (by omega), bvals_2 l i (by omega)], h.frozenAt _, ?_⟩
  have := (h.stored (i * 3 + 2) (.int .i64 x)).1
  rwa [bvals_set2 l i x (by omega)] at this

theorem at_world {Q : Exit → Act → World → Prop} {a : Act} {V : World} (S : World → Prop) (hS : S V) (h : ∀ V', S V' → Q .normal a V') : Q .normal a V := h V hS

/-- The types are others. -/
theorem Zo.types {w : World} {base zb g n cap k tn tk : Nat} {z : Zn} (h : Zo w base zb g n cap k tn tk z) {i : Nat} (hi : i < tn) (t : Int) :
    w.cell? ⟨k, i, none⟩ = some (.int .i64 (z.types.getD i 0)) ∧ w.frozen? ⟨k, i, none⟩ = false ∧ Zo (w.setCell ⟨k, i, none⟩ (.int .i64 t)) base zb g n cap k tn tk ⟨z.f, z.t, z.free, z.types.set i t⟩ ∧ But k w (w.setCell ⟨k, i, none⟩ (.int .i64 t)) := by
  obtain ⟨c1, c2, o⟩ := owns_store h.typ i hi t
  have hbt : But k w (w.setCell ⟨k, i, none⟩ (.int .i64 t)) := (But.refl _ _).setCell _
  exact ⟨c1, c2, ⟨h.box.but hbt (Ne.symm h.kz), own_but h.own hbt h.gk, o, h.gz, h.kz, h.gk⟩, hbt⟩
theorem Zo.btype {w : World} {base zb g n cap k tn tk : Nat} {z : Zn} (h : Zo w base zb g n cap k tn tk z) {i : Nat} (hi : i < n) (t : Int) :
    w.cell? ⟨g, i * 3 + 2, none⟩ = some (.int .i64 (z.free.getD i .zero).t) ∧ w.frozen? ⟨g, i * 3 + 2, none⟩ = false ∧ Zo (w.setCell ⟨g, i * 3 + 2, none⟩ (.int .i64 t)) base zb g n cap k tn tk ⟨z.f, z.t, z.free.set i ⟨(z.free.getD i .zero).a, (z.free.getD i .zero).o, t⟩, z.types⟩ ∧ But g w (w.setCell ⟨g, i * 3 + 2, none⟩ (.int .i64 t)) := by
  obtain ⟨c1, c2, o⟩ := own_type h.own hi t
  have hbt : But g w (w.setCell ⟨g, i * 3 + 2, none⟩ (.int .i64 t)) := (But.refl _ _).setCell _
  exact ⟨c1, c2, ⟨h.box.but hbt (Ne.symm h.gz), o, own_but h.typ hbt (Ne.symm h.gk), h.gz, h.kz, h.gk⟩, hbt⟩

set_option maxHeartbeats 8000000 in
theorem steal_any (w : World) (base zb g n cap k tn tk : Nat) (z : Zn) (ba bo bt t : Int) (F L : Nat) (Z : Zo w base zb g n cap k tn tk z) (hn : n ≤ 300) (h0 : 0 ≤ z.f) (hb : ordOk bo) (h1 : z.f ≤ ba) (h2 : ba + pw bo ≤ 256)
    (hF : (ba - z.f) / 8 = (F : Int)) (hL : (ba + pw bo - 1 - z.f) / 8 = (L : Int)) (hLn : L < tn) (hall : ∀ b ∈ z.free, z.f ≤ b.a ∧ b.a ≤ 256) (htn : tn ≤ 300) :
    Calls Tryd.prog 32 #[.pointer (some ⟨zb, 0, none⟩), .agg #[.int .i64 ba, .int .i64 bo, .int .i64 bt], .int .i64 t] w fun e w' => e = .returned (.tuple #[]) ∧
      Zo w' base zb g n cap k tn tk ⟨z.f, z.t, z.free.map (stealB z.f F L t), setR z.types F t (L + 1 - F)⟩ ∧ Bu2 g k w w' := by
  have hp := pw_pos bo
  have hb0 := below_box w (.cells #[.int .i64 ba, .int .i64 bo, .int .i64 bt] 32)
  have l0 : (w.alloc (.cells #[.int .i64 ba, .int .i64 bo, .int .i64 bt] 32)).cell? ⟨w.heap.size, 0, none⟩ = some (.int .i64 ba) := by go_simp
  have l1 : (w.alloc (.cells #[.int .i64 ba, .int .i64 bo, .int .i64 bt] 32)).cell? ⟨w.heap.size, 1, none⟩ = some (.int .i64 bo) := by go_simp
  have l2 : (w.alloc (.cells #[.int .i64 ba, .int .i64 bo, .int .i64 bt] 32)).cell? ⟨w.heap.size, 2, none⟩ = some (.int .i64 bt) := by go_simp
  obtain ⟨W0, hW0⟩ : ∃ W0, w.alloc (.cells #[.int .i64 ba, .int .i64 bo, .int .i64 bt] 32) = W0 := ⟨_, rfl⟩
  rw [hW0] at hb0 l0 l1 l2
  have HW0 : Hid _ := hW0
  have Z0 := Z.below hb0
  have hgl := Z.glt
  have hkl := Z.klt
  have hzl := Z.box.lt
  obtain ⟨E, hE⟩ : ∃ E, ba + pw bo = E := ⟨_, rfl⟩
  rw [hE] at h2 hL
  have hE1 : z.f ≤ E - 1 := by omega
  have hwE : IntKind.i64.wrap (E - 1) = E - 1 := IntWalk.i64_in _ (by omega)
  have m0 : ∀ wx, Below W0.heap.size W0 wx → wx.cell? ⟨w.heap.size, 0, none⟩ = some (.int .i64 ba) := fun wx h => keep l0 h
  have m1 : ∀ wx, Below W0.heap.size W0 wx → wx.cell? ⟨w.heap.size, 1, none⟩ = some (.int .i64 bo) := fun wx h => keep l1 h
  have m2 : ∀ wx, Below W0.heap.size W0 wx → wx.cell? ⟨w.heap.size, 2, none⟩ = some (.int .i64 bt) := fun wx h => keep l2 h
  have r0 : ∀ wx, Below W0.heap.size W0 wx → wx.cell? ⟨zb, 0, none⟩ = some (.int .i64 z.f) := fun wx h => keep Z0.box.c0 h
  have r1 : ∀ wx, Below W0.heap.size W0 wx → wx.cell? ⟨zb, 1, none⟩ = some (.int .i64 z.t) := fun wx h => keep Z0.box.c1 h
  have r2 : ∀ wx, Below W0.heap.size W0 wx → wx.cell? ⟨zb, 2, none⟩ = some (.slice (some ⟨g, 0, none⟩) n cap) := fun wx h => keep Z0.box.c2 h
  have r3 : ∀ wx, Below W0.heap.size W0 wx → wx.cell? ⟨zb, 3, none⟩ = some (.slice (some ⟨k, 0, none⟩) tn tk) := fun wx h => keep Z0.box.c3 h
  have HG1 : Hid (∀ V, Below W0.heap.size W0 V → Calls Tryd.prog 37 #[.agg #[.int .i64 z.f, .int .i64 z.t, .slice (some ⟨g, 0, none⟩) n cap, .slice (some ⟨k, 0, none⟩) tn tk], .int .i64 ba] V fun e w' => e = .returned (.int .i64 F) ∧ Below W0.heap.size W0 w') := fun V hV => by
    rw [← hF]
    refine (group_any V z.f z.t _ _ n cap tn tk ba h0 h1 (by omega)).mono ?_
    rintro e w' ⟨rfl, hb⟩
    exact ⟨rfl, hV.trans (hb.mono hV.size)⟩
  have HG2 : Hid (∀ V, Below W0.heap.size W0 V → Calls Tryd.prog 37 #[.agg #[.int .i64 z.f, .int .i64 z.t, .slice (some ⟨g, 0, none⟩) n cap, .slice (some ⟨k, 0, none⟩) tn tk], .int .i64 (E - 1)] V fun e w' => e = .returned (.int .i64 L) ∧ Below W0.heap.size W0 w') := fun V hV => by
    rw [← hL]
    refine (group_any V z.f z.t _ _ n cap tn tk (E - 1) h0 hE1 (by omega)).mono ?_
    rintro e w' ⟨rfl, hb⟩
    exact ⟨rfl, hV.trans (hb.mono hV.size)⟩
  have HBe : Hid (∀ V, Below W0.heap.size W0 V → Calls Tryd.prog 42 #[.agg #[.int .i64 ba, .int .i64 bo, .int .i64 bt]] V fun e w' => e = .returned (.int .i64 E) ∧ Below W0.heap.size W0 w') := fun V hV => by
    rw [← hE]
    refine (behind_any V ba bo bt hb (by omega) (by omega)).mono ?_
    rintro e w' ⟨rfl, hb⟩
    exact ⟨rfl, hV.trans (hb.mono hV.size)⟩
  have S0 : Below W0.heap.size W0 W0 := Below.refl _ _
  have hFL' : F ≤ L + 1 := by omega
  clear hW0 hF hL hE Z
  go_enter Tryd.func32, Tryd.ntmps32
  go_wp2_with (rw [HW0.out])
  clear HW0
  go_region_held3 (fun wx => Below W0.heap.size W0 wx) (first | assumption | exact Below.drew (by assumption))
    (first
      | (go_at_call_of 37 ba; refine (HG1.out _ ?_).mono ?_; assumption; rintro e w6 ⟨rfl, hS6⟩)
      | (go_at_call 37; refine (HG2.out _ ?_).mono ?_; assumption; rintro e w7 ⟨rfl, hS7⟩)
      | (go_at_call 42; refine (HBe.out _ ?_).mono ?_; assumption; rintro e w8 ⟨rfl, hS8⟩))
  all_goals
    refine at_world (fun wx => Below W0.heap.size W0 wx) (by assumption) ?_
    intro V hV
    have Z1 := Z0.below hV
    have hU1 : Bu2 g k w V := (Bu2.of_below hb0).trans (.of_below hV)
    clear HG1 HG2 HBe m0 m1 m2 r0 r1 r2 r3 S0 l0 l1 l2 hwE
    go_wp2
    go_loopw [8] (fun ov wr => ∃ c : Nat, F + c ≤ L + 1 ∧ ov = .int .i64 ((F + c : Nat) : Int) ∧ Zo wr base zb g n cap k tn tk ⟨z.f, z.t, z.free, setR z.types F t c⟩ ∧ Bu2 g k w wr) (fun ov _ => L + 1 - (intOf ov).toNat)
    case atStart => exact ⟨0, by omega, rfl, Z1, hU1⟩
    case round =>
      obtain ⟨c, hc, rfl, Zr, hU⟩ := hrel
      clear Z1 hU1
      have y3 := Zr.box.c3
      by_cases hlt : F + c ≤ L
      · obtain ⟨q1, q2, Z5, hb5⟩ := Zr.types (i := F + c) (by omega) t
        have hU5 := hU.trans (.of_but_z hb5)
        have e1 : (((F + c : Nat) : Int) ≤ (L : Int)) := by omega
        obtain ⟨J, hJ⟩ : ∃ J, F + c = J := ⟨_, rfl⟩
        rw [hJ] at q1 q2 Z5 hU5 e1
        have hJn : J < tn := by omega
        have Z6 : Zo (wr.setCell ⟨k, J, none⟩ (.int .i64 t)) base zb g n cap k tn tk ⟨z.f, z.t, z.free, setR z.types F t (c + 1)⟩ := by
          have : setR z.types F t (c + 1) = (setR z.types F t c).set J t := by rw [← hJ]; rfl
          rw [this]; exact Z5
        have HJ : Hid (F + c = J) := hJ
        rw [hJ]
        clear hJ Zr hU Z5 hb5
        go_wp2
        go_roundw
        case rel => exact ⟨c + 1, by have := HJ.out; omega, by have := HJ.out; rw [show F + (c + 1) = J + 1 by omega]; go_num, Z6, hU5⟩
        case measure => simp [intOf]; omega
      · have hcL : c = L + 1 - F := by omega
        have e1 : ¬ (((F + c : Nat) : Int) ≤ (L : Int)) := by omega
        rw [hcL] at Zr
        obtain ⟨T, hT⟩ : ∃ T, setR z.types F t (L + 1 - F) = T := ⟨_, rfl⟩
        rw [hT] at Zr
        obtain ⟨J, hJ⟩ : ∃ J, F + c = J := ⟨_, rfl⟩
        rw [hJ] at e1 ⊢
        have HT : Hid (setR z.types F t (L + 1 - F) = T) := hT
        have y2 := Zr.box.c2
        clear hT hcL hJ y3
        go_wp2
        clear y2
        go_loopw [42] (fun iv wq => ∃ i : Nat, i ≤ n ∧ iv = .int .i64 i ∧ Zo wq base zb g n cap k tn tk ⟨z.f, z.t, stealK z.f F L t z.free i, T⟩ ∧ Bu2 g k w wq) (fun iv _ => n - (intOf iv).toNat)
        case atStart => exact ⟨0, Nat.zero_le _, rfl, by rw [stealK_0]; exact Zr, hU⟩
        case round =>
          obtain ⟨i, hi, rfl, Zq, hUq⟩ := hrel
          clear Zr hU
          have hll : z.free.length = n := by have := bowns_len Zq.own; rw [stealK_len] at this; exact this
          by_cases hin : i < n
          · obtain ⟨⟨x, y, u⟩, hX⟩ : ∃ b, z.free.getD i .zero = b := ⟨_, rfl⟩
            have hXq : (stealK z.f F L t z.free i).getD i .zero = ⟨x, y, u⟩ := by rw [stealK_at _ _ _ _ (by omega)]; exact hX
            have hsucc := stealK_succ z.f F L t (l := z.free) (by omega) hX
            have hmem : (⟨x, y, u⟩ : Bk) ∈ z.free := by rw [← hX, List.getD_eq_getElem?_getD, List.getElem?_eq_getElem (by omega)]; exact List.getElem_mem _
            obtain ⟨x1, x2⟩ := hall _ hmem
            dsimp only at x1 x2
            obtain ⟨q1, q2, Z5, hb5⟩ := Zq.btype (i := i) hin t
            rw [hXq] at q1 Z5
            dsimp only at q1 Z5
            have qa : wr.cell? ⟨g, i * 3, none⟩ = some (.int .i64 x) := by
              have := Zq.own.cellAt (i * 3) (by omega)
              rw [this]
              have h2 := bvals_0 (stealK z.f F L t z.free i) i (by rw [stealK_len]; omega)
              rw [hXq] at h2
              exact h2
            obtain ⟨G, hG⟩ : ∃ G : Nat, (x - z.f) / 8 = (G : Int) := ⟨((x - z.f) / 8).toNat, by omega⟩
            have HG : Hid (∀ V', Below wr.heap.size wr V' → Calls Tryd.prog 37 #[.agg #[.int .i64 z.f, .int .i64 z.t, .slice (some ⟨g, 0, none⟩) n cap, .slice (some ⟨k, 0, none⟩) tn tk], .int .i64 x] V' fun e w' => e = .returned (.int .i64 G) ∧ Below wr.heap.size wr w') := fun V' hV' => by
              rw [← hG]
              refine (group_any V' z.f z.t _ _ n cap tn tk x h0 x1 x2).mono ?_
              rintro e w' ⟨rfl, hb⟩
              exact ⟨rfl, hV'.trans (hb.mono hV'.size)⟩
            have HSt : Hid (stealB z.f F L t ⟨x, y, u⟩ = if (F : Int) ≤ G ∧ (G : Int) ≤ L then ⟨x, y, t⟩ else ⟨x, y, u⟩) := by
              show _ = _
              unfold stealB
              dsimp only
              rw [hG]
            have s1 : ∀ wx, Below wr.heap.size wr wx → wx.cell? ⟨zb, 0, none⟩ = some (.int .i64 z.f) := fun wx h => keep Zq.box.c0 h
            have s2 : ∀ wx, Below wr.heap.size wr wx → wx.cell? ⟨zb, 1, none⟩ = some (.int .i64 z.t) := fun wx h => keep Zq.box.c1 h
            have s3 : ∀ wx, Below wr.heap.size wr wx → wx.cell? ⟨zb, 2, none⟩ = some (.slice (some ⟨g, 0, none⟩) n cap) := fun wx h => keep Zq.box.c2 h
            have s4 : ∀ wx, Below wr.heap.size wr wx → wx.cell? ⟨zb, 3, none⟩ = some (.slice (some ⟨k, 0, none⟩) tn tk) := fun wx h => keep Zq.box.c3 h
            have s5 : ∀ wx, Below wr.heap.size wr wx → wx.cell? ⟨g, i * 3, none⟩ = some (.int .i64 x) := fun wx h => keep qa h
            have S0 : Below wr.heap.size wr wr := Below.refl _ _
            have hii : (i : Int) < n := by omega
            have HXq : Hid ((stealK z.f F L t z.free i).getD i .zero = ⟨x, y, u⟩) := hXq
            have HSu : Hid (stealK z.f F L t z.free (i + 1) = (stealK z.f F L t z.free i).set i (stealB z.f F L t ⟨x, y, u⟩)) := hsucc
            clear hX hmem hG q1 q2 Z5 hb5 hXq qa hsucc
            go_wp2_with fail
            go_region_held3 (fun wx => Below wr.heap.size wr wx) (first | assumption | exact Below.drew (by assumption))
              (first | (go_at_call 37; refine (HG.out _ ?_).mono ?_; assumption; rintro e w6 ⟨rfl, hS6⟩))
            clear HG s1 s2 s3 s4 s5 S0
            have Z6 := Zq.below hS6
            have hU6 := hUq.trans (.of_below hS6)
            have y2 := Z6.box.c2
            by_cases hst : (F : Int) ≤ G ∧ (G : Int) ≤ L
            · obtain ⟨q1, q2, Z7, hb7⟩ := Z6.btype (i := i) hin t
              dsimp only at q1 Z7
              rw [HXq.out] at q1 Z7
              dsimp only at q1 Z7
              have hU7 := hU6.trans (.of_but_g hb7)
              have Z8 : Zo (w6.setCell ⟨g, i * 3 + 2, none⟩ (.int .i64 t)) base zb g n cap k tn tk ⟨z.f, z.t, stealK z.f F L t z.free (i + 1), T⟩ := by
                rw [HSu.out, HSt.out, if_pos hst]; exact Z7
              obtain ⟨st1, st2⟩ := hst
              clear Zq Z6 Z7 hb7 hU6 hUq
              go_wp2
              go_roundw
              case rel => exact ⟨i + 1, by omega, by go_num, Z8, hU7⟩
              case measure => simp [intOf]; omega
            · have hset : (stealK z.f F L t z.free i).set i ⟨x, y, u⟩ = stealK z.f F L t z.free i := by
                have h3 := HXq.out
                rw [List.getD_eq_getElem?_getD, List.getElem?_eq_getElem (by rw [stealK_len]; omega)] at h3
                simp only [Option.getD_some] at h3
                rw [← h3]
                exact List.set_getElem_self _
              have Z8 : Zo w6 base zb g n cap k tn tk ⟨z.f, z.t, stealK z.f F L t z.free (i + 1), T⟩ := by
                rw [HSu.out, HSt.out, if_neg hst, hset]; exact Z6
              clear Zq hUq hset
              by_cases st1 : (F : Int) ≤ G
              · have st2 : ¬ (G : Int) ≤ L := fun g => hst ⟨st1, g⟩
                clear Z6 hst
                go_wp2
                go_roundw
                case rel => exact ⟨i + 1, by omega, by go_num, Z8, hU6⟩
                case measure => simp [intOf]; omega
              · clear Z6 hst
                go_wp2
                go_roundw
                case rel => exact ⟨i + 1, by omega, by go_num, Z8, hU6⟩
                case measure => simp [intOf]; omega
          · have hin' : i = n := by omega
            have ZF := Zq
            rw [hin', ← hll, stealK_all] at ZF
            rw [hll] at ZF
            clear Zq
            go_wp2
            go_end0
            exact ⟨rfl, by rw [HT.out]; exact ZF, hUq⟩

end Go.Proofs.YtffhpjjioefaeafDoor

/-
  OWN TEXT. Contract of slices.Delete at one block.
-/
namespace Go.Proofs.YtffhpjjioefaeafDoor
open Go Go.RowKit Go.Proofs.YtffhpjjioefaeafDoor.Kit

theorem zero_block : ∀ w, (zeroValue 32).run Tryd.prog w = .ok (.agg #[.int .i64 0, .int .i64 0, .int .i64 0]) w := fun w => by
  have h := info_block
  cases hq : Tryd.prog.info? 32 with
  | none => simp [hq] at h
  | some i =>
    simp [hq] at h
    simp [zeroValue, typeInfo, hq, h.1]

theorem zero_one : ∀ v ∈ (Value.agg #[.int .i64 0, .int .i64 0, .int .i64 0]).cells, v.oneCell' = true := by
  intro v hv
  have h : v ∈ (#[.int .i64 0, .int .i64 0, .int .i64 0] : Array Value) := hv
  simp at h
  subst h
  rfl

theorem bvals_take (l : List Bk) (i : Nat) : (bvals l).take (i * 3) = bvals (l.take i) := by
  induction l generalizing i with
  | nil => simp [bvals]
  | cons b l ih =>
    cases i with
    | zero => simp [bvals]
    | succ i => rw [Nat.succ_mul]; simp only [bvals, List.take_succ_cons, ih]
theorem bvals_drop (l : List Bk) (i : Nat) : (bvals l).drop (i * 3) = bvals (l.drop i) := by
  induction l generalizing i with
  | nil => simp [bvals]
  | cons b l ih =>
    cases i with
    | zero => simp [bvals]
    | succ i => rw [Nat.succ_mul]; simp only [bvals, List.drop_succ_cons, ih]
theorem take_cut {L X : List Value} {n m : Nat} (h : L.take n = X) (hm : m ≤ n) : L.take m = X.take m := by rw [← h, List.take_take, Nat.min_eq_left hm]

set_option maxHeartbeats 2000000 in
theorem bDel_any (w : World) (base g N cap i : Nat) (l : List Bk) (hi : i ≤ N) (hn : N ≤ 300) (own : w.ownsRow base 32 3 (.slice (some ⟨g, 0, none⟩) (N + 1) cap) (N + 1) (bvals l)) :
    Calls Tryd.prog 24 #[.slice (some ⟨g, 0, none⟩) (N + 1) cap, .int .i64 i, .int .i64 ((i : Int) + 1)] w fun e w' => e = .returned (.slice (some ⟨g, 0, none⟩) N cap) ∧
      w'.ownsRow base 32 3 (.slice (some ⟨g, 0, none⟩) N cap) N (bvals (l.eraseIdx i)) ∧ But g w w' := by
  obtain ⟨i1, hj, hy0, hy1, hy2⟩ := info_parts info_block
  have hll := bowns_len own
  obtain ⟨hbg, hnc, cur, R, hcur⟩ := Row.of own
  have hm := R.m
  unfold maxLen at hm
  have own1 : w.drew.ownsRow base 32 3 (.slice (some ⟨g, 0, none⟩) i cap) i (bvals (l.take i)) :=
    (R.below (Below.refl _ _).drew).owns hbg (by omega) (by rw [take_cut hcur (by omega), bvals_take])
  obtain ⟨news, hnews⟩ : ∃ news, news = bvals (l.drop (i + 1)) := ⟨_, rfl⟩
  have hnl : news.length = (N - i) * 3 := by rw [hnews, length_bvals, List.length_drop, hll]; omega
  have hn1 : ∀ u ∈ news, u.oneCell' = true := by rw [hnews]; exact bvals_oneCell _
  have hcell : ∀ j u, news[j]? = some u → w.drew.cell? ((⟨g, (i + 1) * 3, none⟩ : Addr).add j) = some u := by
    intro j u hu
    rw [add_at, (R.below (Below.refl _ _).drew).cell]
    rw [hnews, ← bvals_drop, List.getElem?_drop] at hu
    rw [← hcur, List.getElem?_take] at hu
    split at hu
    · exact hu
    · cases hu
  have HE : Hid (bvals (l.take i) ++ news = bvals (l.eraseIdx i)) := by
    show _ = _
    rw [hnews, ← bvals_append, List.eraseIdx_eq_take_drop_succ]
  have hsum : i + (N - i) = N := by omega
  have Hcell : Hid _ := hcell
  have Hnl : Hid _ := hnl
  clear hnews hcur own hcell hnl
  have h1 : (i : Int) + 1 ≤ N + 1 := by omega
  have h2 : i ≤ N + 1 := by omega
  have h3 : ((i : Int) == (i : Int) + 1) = false := by simp; omega
  have h4 : ((i : Int) + 1).toNat = i + 1 := by omega
  have h5 : i ≤ cap := by omega
  have h6 : ¬ (cap = N) := by omega
  have h7 : N + 1 - N = 1 := by omega
  have h8 : (i : Int) ≤ (cap : Int) := by omega
  have h9 : (i : Int) + 1 ≤ (cap : Int) := by omega
  have h10 : (i : Int) ≤ (N : Int) + 1 := by omega
  have h11 : (N : Int) ≤ (N : Int) + 1 := by omega
  have h12 : (N : Int) + 1 ≤ (cap : Int) := by omega
  have h13 : ((N : Int) + 1).toNat = N + 1 := by omega
  have h14 : ¬ (cap = i) := by omega
  have h15 : (0 : Int) ≤ (i : Int) + 1 := by omega
  by_cases hc' : cap = i + 1
  · have hc : (cap = i + 1) = True := eq_true hc'
    have HC : Hid (cap = i + 1) := hc'
    clear hc'
    go_enter Tryd.func24, Tryd.ntmps24
    go_wp2
    go_region_law (refine step_append_fits rfl (.tmp 22) (.tmp 25) 23 rfl 32 i1 3 Tryd.underlying23 hj hy1 base g i cap (bvals (l.take i)) (by simp [Act.eval, Act.put]) own1 (some ⟨g, 0, none⟩) (N - i) (cap - (i + 1)) news (by simp [Act.eval, Act.put]) Hnl.out ⟨_, rfl, fun j u hu => by have := Hnl.out; have hc' := HC.out; have h0 : news = [] := List.eq_nil_of_length_eq_zero (by omega); rw [h0] at hu; cases hu⟩ hn1 N hsum (by omega) ?_; intro w1 ho1 hb1)
    all_goals
      obtain ⟨_, _, cur1, R1, hcur1⟩ := Row.of ho1
      have hl1 := R1.len
      clear own1 Hcell Hnl hn1 ho1 R
      go_wp2_with (refine wpList_clear_k rfl (.tmp 31) 23 rfl 32 _ 3 Tryd.underlying23 zero_block rfl zero_one _ _ _ rfl g (N * 3) cur1 R1.h (fun _ => rfl) (by omega) ?_; intro w2 cur2 hg2 hb2)
      go_ret
      obtain ⟨g1, g2, g3⟩ := hg2.out
      have R2 : Row w2 32 3 g cap cur2 := ⟨g1, by rw [g2]; exact hl1, R1.m⟩
      exact ⟨rfl, R2.owns hbg (by omega) (by rw [g3, hcur1, HE.out]), ((But.of_below (Below.refl _ _).drew).trans hb1).trans hb2⟩
  · go_enter Tryd.func24, Tryd.ntmps24
    go_wp2
    go_region_law (refine step_append_fits rfl (.tmp 22) (.tmp 25) 23 rfl 32 i1 3 Tryd.underlying23 hj hy1 base g i cap (bvals (l.take i)) (by simp [Act.eval, Act.put]) own1 (some ⟨g, (i + 1) * 3, none⟩) (N - i) (cap - (i + 1)) news (by simp [Act.eval, Act.put]) Hnl.out ⟨_, rfl, Hcell.out⟩ hn1 N hsum (by omega) ?_; intro w1 ho1 hb1)
    all_goals
      obtain ⟨_, _, cur1, R1, hcur1⟩ := Row.of ho1
      have hl1 := R1.len
      clear own1 Hcell Hnl hn1 ho1 R
      go_wp2_with (refine wpList_clear_k rfl (.tmp 31) 23 rfl 32 _ 3 Tryd.underlying23 zero_block rfl zero_one _ _ _ rfl g (N * 3) cur1 R1.h (fun _ => rfl) (by omega) ?_; intro w2 cur2 hg2 hb2)
      go_ret
      obtain ⟨g1, g2, g3⟩ := hg2.out
      have R2 : Row w2 32 3 g cap cur2 := ⟨g1, by rw [g2]; exact hl1, R1.m⟩
      exact ⟨rfl, R2.owns hbg (by omega) (by rw [g3, hcur1, HE.out]), ((But.of_below (Below.refl _ _).drew).trans hb1).trans hb2⟩

end Go.Proofs.YtffhpjjioefaeafDoor

/-
  OWN TEXT. Contract of the code: buddy.join.
-/
namespace Go.Proofs.YtffhpjjioefaeafDoor
open Go Go.RowKit Go.Proofs.YtffhpjjioefaeafDoor.Kit

set_option maxHeartbeats 1000000 in
theorem joinF_any (W : World) (b1 b2 : Nat) (x o : Int) (ba bo bt : Int) (c1 : W.cell? ⟨b1, 0, none⟩ = some (.int .i64 x)) (c2 : W.cell? ⟨b2, 0, none⟩ = some (.int .i64 o)) :
    Calls Tryd.prog 53 (#[.agg #[.int .i64 ba, .int .i64 bo, .int .i64 bt]] ++ #[.pointer (some ⟨b1, 0, none⟩), .pointer (some ⟨b2, 0, none⟩)]) W fun e W' => e = .returned (.bool (isB x o ⟨ba, bo, bt⟩)) ∧ Below W.heap.size W W' := by
  have hb0 := below_box W (.cells #[.int .i64 ba, .int .i64 bo, .int .i64 bt] 32)
  have d1 := keep c1 hb0
  have d2 := keep c2 hb0
  clear c1 c2
  by_cases g1 : ba = x
  · have HF : Hid ((bo == o) = isB x o ⟨ba, bo, bt⟩) := by
      show _ = decide (_ ∧ _)
      rw [show (bo == o) = decide (bo = o) from rfl]
      simp [g1]
    have g1' : (ba == x) = true := by simpa using g1
    clear g1
    go_enter Tryd.func53, Tryd.ntmps53
    go_wp2
    go_ret
    exact ⟨ret_bool HF.out, hb0⟩
  · have HF : Hid (false = isB x o ⟨ba, bo, bt⟩) := by
      show _ = decide (_ ∧ _)
      simp [g1]
    have g1' : (ba == x) = false := by simpa using g1
    clear g1
    go_enter Tryd.func53, Tryd.ntmps53
    go_wp2
    go_ret
    exact ⟨ret_bool HF.out, hb0⟩

theorem joinF_call (args : Array Value) (W : World) : (callFunc 53 args).run Tryd.prog W = .ok (.enter 53 args) W := by kernel_rfl

/-- What the loop of join knows: the zone behind the pointer, its row; the order in its box. -/
structure JnI (w : World) (base zb g cap ob : Nat) (f t : Int) (tv : Value) (l : List Bk) (n : Nat) (O : Int) (W : World) : Prop where
  b : Bu2 g zb w W
  box : ZBox W zb (.int .i64 f) (.int .i64 t) (.slice (some ⟨g, 0, none⟩) n cap) tv
  own : W.ownsRow base 32 3 (.slice (some ⟨g, 0, none⟩) n cap) n (bvals l)
  ord : W.cell? ⟨ob, 0, none⟩ = some (.int .i64 O)
  fz : W.frozen? ⟨ob, 0, none⟩ = false
theorem JnI.step {w : World} {base zb g cap ob : Nat} {f t : Int} {tv : Value} {l : List Bk} {n : Nat} {O : Int} {W W' : World} (h : JnI w base zb g cap ob f t tv l n O W) (hb : Below W.heap.size W W') : JnI w base zb g cap ob f t tv l n O W' :=
  ⟨h.b.trans (.of_below hb), h.box.below hb, owns_below h.own hb (Nat.le_refl _), keep h.ord hb, (hb.frozen (p := ⟨ob, 0, none⟩) (World.block_lt_of_cell? W _ h.ord)).trans h.fz⟩
theorem JnI.del {w : World} {base zb g cap ob : Nat} {f t : Int} {tv : Value} {l m : List Bk} {n k : Nat} {O : Int} {W W' : World} (h : JnI w base zb g cap ob f t tv l n O W) (hb : But g W W') (own : W'.ownsRow base 32 3 (.slice (some ⟨g, 0, none⟩) k cap) k (bvals m)) (hgz : g ≠ zb) (hgo : ob ≠ g) (hzo : ob ≠ zb) :
    JnI w base zb g cap ob f t tv m k O (W'.setCell ⟨zb, 2, none⟩ (.slice (some ⟨g, 0, none⟩) k cap)) := by
  have hbt : But zb W' (W'.setCell ⟨zb, 2, none⟩ (.slice (some ⟨g, 0, none⟩) k cap)) := (But.refl _ _).setCell _
  refine ⟨(h.b.trans (.of_but_g hb)).trans (.of_but_z hbt), (h.box.but hb (Ne.symm hgz)).set2 _, own_but own hbt hgz, hbt.cell (hb.cell h.ord hgo) hzo, ?_⟩
  have h1 := World.block_lt_of_cell? W _ h.ord
  have h2 := hb.block ob h1 hgo
  have h3 := hbt.block ob (Nat.lt_of_lt_of_le h1 hb.size) hzo
  exact (World.frozen?_of_block (a := ⟨ob, 0, none⟩) (h3.trans h2)).trans h.fz
theorem JnI.inc {w : World} {base zb g cap ob : Nat} {f t : Int} {tv : Value} {l : List Bk} {n : Nat} {O : Int} {W : World} (h : JnI w base zb g cap ob f t tv l n O W) (hgo : ob ≠ g) (hzo : ob ≠ zb) (ho : w.heap.size ≤ ob) (P : Int) : JnI w base zb g cap ob f t tv l n P (W.setCell ⟨ob, 0, none⟩ (.int .i64 P)) := by
  have hbt : But ob W (W.setCell ⟨ob, 0, none⟩ (.int .i64 P)) := (But.refl _ _).setCell _
  refine ⟨⟨hbt.os.trans h.b.os, hbt.tape.trans h.b.tape, hbt.output.trans h.b.output, Nat.le_trans h.b.size hbt.size, fun k hk h1 h2 => (hbt.block k (Nat.lt_of_lt_of_le hk h.b.size) (by omega)).trans (h.b.block k hk h1 h2)⟩, h.box.but hbt (Ne.symm hzo), own_but h.own hbt (Ne.symm hgo), World.cell?_setCell_same _ _ _ h.ord, by simpa using h.fz⟩

set_option maxHeartbeats 4000000 in
theorem join_any (w : World) (base zb g n cap : Nat) (f t : Int) (tv : Value) (l : List Bk) (a o : Int) (hz : newOk f t)
    (Z : ZBox w zb (.int .i64 f) (.int .i64 t) (.slice (some ⟨g, 0, none⟩) n cap) tv) (own : w.ownsRow base 32 3 (.slice (some ⟨g, 0, none⟩) n cap) n (bvals l)) (hgz : g ≠ zb) (hn : n ≤ 256)
    (hI : Inc l) (hL : ∀ b ∈ l, blkIn f t b.a b.o) (hA : blkIn f t a o) (R : List Bk × Int × Int) (hR : backGo (4 - o).toNat l a o = R) :
    Calls Tryd.prog 43 #[.pointer (some ⟨zb, 0, none⟩), .int .i64 a, .int .i64 o] w fun e w' => (∃ n', e = .returned (.tuple #[.int .i64 R.2.1, .int .i64 R.2.2]) ∧ n' ≤ n ∧
      ZBox w' zb (.int .i64 f) (.int .i64 t) (.slice (some ⟨g, 0, none⟩) n' cap) tv ∧ w'.ownsRow base 32 3 (.slice (some ⟨g, 0, none⟩) n' cap) n' (bvals R.1) ∧ Bu2 g zb w w') ∧ blkIn f t R.2.1 R.2.2 := by
  obtain ⟨n1, n2, n3, n4, n5⟩ := hz
  have hzl := Z.lt
  have hgl : g < w.heap.size := (own.lt _ rfl).2
  have hb0 := below_box w (.cells #[.int .i64 o] 3)
  obtain ⟨W0, hW0⟩ : ∃ W0, w.alloc (.cells #[.int .i64 o] 3) = W0 := ⟨_, rfl⟩
  have J0 : JnI w base zb g cap w.heap.size f t tv l n o W0 := by
    rw [← hW0]
    exact ⟨.of_below hb0, Z.below hb0, owns_below own hb0 (Nat.le_refl _), by simp, by simp⟩
  have HR : Hid (backGo (4 - o).toNat l a o = R) := hR
  have HW0 : Hid _ := hW0
  have go1 : w.heap.size ≠ g := by omega
  have go2 : w.heap.size ≠ zb := by omega
  clear hW0 hb0 Z own hR
  go_enter Tryd.func43, Tryd.ntmps43
  go_wp2_with (rw [HW0.out])
  clear HW0
  go_loopw [1] (fun av W => ∃ (A O : Int) (l' : List Bk) (n' : Nat), av = .int .i64 A ∧ blkIn f t A O ∧ Hid (backGo (4 - O).toNat l' A O = R) ∧ Hid (Inc l') ∧ (∀ b ∈ l', blkIn f t b.a b.o) ∧ n' ≤ n ∧ JnI w base zb g cap w.heap.size f t tv l' n' O W) (fun _ W => (4 - intOf ((W.cell? ⟨w.heap.size, 0, none⟩).getD undef)).toNat)
  case atStart => exact ⟨a, o, l, n, rfl, hA, HR, hI, hL, Nat.le_refl _, J0⟩
  case round =>
    obtain ⟨A, O, l', n', rfl, hA', hG, hI', hL', hn', J⟩ := hrel
    clear J0 HR hI hL hA
    obtain ⟨⟨o0, o4⟩, a1, a2, a3⟩ := id hA'
    obtain ⟨AN, rfl⟩ : ∃ AN : Nat, A = AN := ⟨A.toNat, by omega⟩
    have x2 := J.box.c2
    have z2 := J.box.z2
    have xo := J.ord
    have fo := J.fz
    have hsr := J.b.size
    have HXO : Hid (wr.cell? ⟨w.heap.size, 0, none⟩ = some (.int .i64 O)) := J.ord
    by_cases hO : O < 4
    · obtain ⟨X, hX⟩ : ∃ X, besideA (AN : Int) O = X := ⟨_, rfl⟩
      have HC := beside_any wr AN O ⟨o0, o4⟩ hO (by omega) a3
      rw [hX] at HC
      have HX : Hid (besideA (AN : Int) O = X) := hX
      obtain ⟨m, hm⟩ : ∃ m : Nat, (4 - O).toNat = m + 1 := ⟨(4 - O).toNat - 1, by omega⟩
      have hm2 : (4 - (O + 1)).toNat = m := by omega
      have hG1 : Hid (backGo (m + 1) l' (AN : Int) O = R) := by have := hG.out; rw [hm] at this; exact this
      clear hX hG
      go_wp2_with fail
      go_at_call 52
      refine HC.mono ?_
      rintro e w' ⟨rfl, rfl⟩
      clear HC
      have hbx := below_box wr (.cells #[.int .i64 X] 3)
      have J1 := J.step hbx
      have q1 : (wr.alloc (.cells #[.int .i64 X] 3)).cell? ⟨wr.heap.size, 0, none⟩ = some (.int .i64 X) := by simp
      obtain ⟨W1, hW1⟩ : ∃ W1, wr.alloc (.cells #[.int .i64 X] 3) = W1 := ⟨_, rfl⟩
      rw [hW1] at J1 q1
      have HW1 : Hid _ := hW1
      have y2 := J1.box.c2
      have yo := J1.ord
      have hlen := bowns_len J1.own
      have hHold : HoldsB 53 #[.pointer (some ⟨wr.heap.size, 0, none⟩), .pointer (some ⟨w.heap.size, 0, none⟩)] l' (isB X O) W1 := fun i hi W hb => joinF_any W _ _ X O _ _ _ (keep q1 hb) (keep yo hb)
      have HIx := bIndex_any W1 53 #[.pointer (some ⟨wr.heap.size, 0, none⟩), .pointer (some ⟨w.heap.size, 0, none⟩)] (some ⟨g, 0, none⟩) n' cap l' (isB X O) (blks_own J1.own (by omega)) joinF_call hHold
      clear hHold hW1 hbx J x2 z2 xo fo
      go_wp2_with (first | (rw [HW1.out]) | fail)
      go_at_call 35
      refine HIx.mono ?_
      rintro e W2 ⟨hf, hb2⟩
      have J2 := J1.step hb2
      have q2 := keep q1 hb2
      clear HIx J1 q1 y2 yo hb2 HW1
      have y2 := J2.box.c2
      have z2 := J2.box.z2
      have yo := J2.ord
      have fo := J2.fz
      rcases hf with ⟨k, hk, rfl, hk1, hk2⟩ | ⟨rfl, hk1⟩
      · obtain ⟨N, rfl⟩ : ∃ N, n' = N + 1 := ⟨n' - 1, by omega⟩
        have HD := bDel_any W2 base g N cap k l' (by omega) (by omega) J2.own
        have HE : Hid (l'.eraseIdx k = dropB l' X O) := erase_eq hI'.out hk hk1
        have hh : hasB l' X O = true := has_of hk hk1
        rw [HE.out] at HD
        obtain ⟨A2, hA2⟩ : ∃ A2, (if X < (AN : Int) then X else (AN : Int)) = A2 := ⟨_, rfl⟩
        have hG2 : Hid (backGo (4 - (O + 1)).toNat (dropB l' X O) A2 (O + 1) = R) := by
          show _ = _
          rw [hm2, ← hG1.out, backGo, HX.out, if_pos hh, hA2]
        have hB2 : blkIn f t A2 (O + 1) := by
          have h1 := join_in hA' (by rw [HX.out]; exact hasB_in hh hL') hO
          rw [HX.out, hA2] at h1
          exact h1
        have hL2 : ∀ b ∈ dropB l' X O, blkIn f t b.a b.o := fun b hb => hL' b (dropB_mem hb)
        have hI2 : Hid (Inc (dropB l' X O)) := hI'.out.drop X O
        obtain ⟨D, hD⟩ : ∃ D, dropB l' X O = D := ⟨_, rfl⟩
        rw [hD] at hG2 hL2 hI2 HD
        clear hk1 hk2 HE hh hG1 hI' hL' hD
        go_wp2_with fail
        go_at_call 24
        refine HD.mono ?_
        rintro e W3 ⟨rfl, own3, hb3⟩
        have J3 := J2.del hb3 own3 hgz go1 go2
        have q3 := hb3.cell q2 (by omega)
        have o3 := hb3.cell J2.ord go1
        have B3 := J2.box.but hb3 (Ne.symm hgz)
        have u2 := B3.c2
        have v2 := B3.z2
        have f3 : W3.frozen? ⟨w.heap.size, 0, none⟩ = false := by
          have h2 := hb3.block w.heap.size (World.block_lt_of_cell? W2 _ J2.ord) go1
          exact (World.frozen?_of_block (a := ⟨w.heap.size, 0, none⟩) h2).trans J2.fz
        have J5 := J3.inc go1 go2 (Nat.le_refl _) (O + 1)
        have gw : ¬ (wr.heap.size = zb) := by omega
        have gw2 : ¬ (w.heap.size = zb) := go2
        have gz1 : ¬ (zb = w.heap.size) := by omega
        have gz2 : ¬ (zb = wr.heap.size) := by omega
        clear HD J2 J3 B3 y2 z2 yo fo q2 hb3 own3
        by_cases hXA : X < (AN : Int)
        · obtain rfl : A2 = X := by rw [← hA2, if_pos hXA]
          clear hA2
          go_wp2
          refine ⟨⟨A2, O + 1, D, N, rfl, hB2, hG2, hI2, hL2, by omega, J5⟩, ?_⟩
          rw [J5.ord, HXO.out]
          simp [intOf]; omega
        · obtain rfl : A2 = (AN : Int) := by rw [← hA2, if_neg hXA]
          clear hA2
          go_wp2
          refine ⟨⟨AN, O + 1, D, N, rfl, hB2, hG2, hI2, hL2, by omega, J5⟩, ?_⟩
          rw [J5.ord, HXO.out]
          simp [intOf]; omega
      · have HF : Hid (R = (l', ((AN : Int)), O)) := by
          show _ = _
          rw [← hG1.out, backGo, HX.out, if_neg (by rw [has_none hk1]; simp)]
        clear hk1 hG1 hI'
        go_wp2
        go_region
        all_goals
          have K5 := J2.step (Below.refl _ _).drew
          go_wp2
          go_ret2
          rw [HF.out]
          exact ⟨⟨n', rfl, hn', K5.box, K5.own, K5.b⟩, hA'⟩
    · have HF : Hid (R = (l', ((AN : Int)), O)) := by
        show _ = _
        have := hG.out
        rw [show (4 - O).toNat = 0 by omega] at this
        exact this.symm
      clear hG hI'
      go_wp2
      go_region
      all_goals
        have K5 := J.step (Below.refl _ _).drew
        go_wp2
        go_ret2
        rw [HF.out]
        exact ⟨⟨n', rfl, hn', K5.box, K5.own, K5.b⟩, hA'⟩

end Go.Proofs.YtffhpjjioefaeafDoor

/-
  OWN TEXT. Contract of slices.ContainsFunc over blocks, whatever the closure.
-/
namespace Go.Proofs.YtffhpjjioefaeafDoor
open Go Go.RowKit Go.Proofs.YtffhpjjioefaeafDoor.Kit

set_option maxHeartbeats 1000000 in
theorem bContains_any (w : World) (F : Nat) (caps : Array Value) (ao : Option Addr) (n cap : Nat) (l : List Bk) (g : Bk → Bool) (h : Blks w ao n l)
    (hcall : ∀ args W, (callFunc F args).run Tryd.prog W = .ok (.enter F args) W) (hc : HoldsB F caps l g w) :
    Calls Tryd.prog 16 #[.slice ao n cap, .func (.func F) #[] caps] w fun e w' => e = .returned (.bool (l.any g)) ∧ Below w.heap.size w w' := by
  go_enter Tryd.func16, Tryd.ntmps16
  go_wp2_with fail
  go_at_call 35
  refine (bIndex_any w F caps ao n cap l g h hcall hc).mono ?_
  rintro e w1 ⟨hf, hb⟩
  rcases hf with ⟨k, hk, rfl, hg, _⟩ | ⟨rfl, hg⟩
  · have HF : Hid (l.any g = true) := any_of_found hk hg
    clear hg hc
    go_wp2
    go_ret
    exact ⟨ret_bool HF.out.symm, hb⟩
  · have HF : Hid (l.any g = false) := any_of_none hg
    clear hg hc
    go_wp2
    go_ret
    exact ⟨ret_bool HF.out.symm, hb⟩

end Go.Proofs.YtffhpjjioefaeafDoor

/-
  OWN TEXT. Contract of slices.Insert at one block.
-/
namespace Go.Proofs.YtffhpjjioefaeafDoor
open Go Go.RowKit Go.Proofs.YtffhpjjioefaeafDoor.Kit

/-- A list with one more at a place. -/
def insB (l : List Bk) (i : Nat) (b : Bk) : List Bk := l.take i ++ b :: l.drop i
theorem insB_vals (l : List Bk) (i : Nat) (b : Bk) : bvals (insB l i b) = bvals (l.take i) ++ ([.int .i64 b.a, .int .i64 b.o, .int .i64 b.t] ++ bvals (l.drop i)) := by
  unfold insB
  rw [bvals_append]
  rfl

/-- What is returned: a row of n blocks, the old block or a new one. -/
def RetRow (w w' : World) (base g n : Nat) (l : List Bk) (e : Ending) : Prop :=
  ∃ g' cap', e = .returned (.slice (some ⟨g', 0, none⟩) n cap') ∧ w'.ownsRow base 32 3 (.slice (some ⟨g', 0, none⟩) n cap') n (bvals l) ∧ But g w w' ∧ (g' = g ∨ w.heap.size ≤ g')

theorem ov_false (w : World) (g gv off lb cb la ca : Nat) (cur vs : List Value) (cap kA : Nat) (R : Row w 32 3 g cap cur) (hv : w.heap[gv]? = some (.cells vs.toArray 32 (0, 0))) (hk : vs.length = kA) (hne : gv ≠ g) (hc : 0 < cap) :
    (callFunc 48 #[.slice (some ⟨gv, 0, none⟩) la ca, .slice (some ⟨g, off, none⟩) lb cb]).run Tryd.prog w = .ok (.value (.bool false)) w := by
  have hz : ∀ w, (Go.sizeOf 32).run Tryd.prog w = .ok 3 w := fun w => Tryd.sizeOf32 w
  rw [run_callFunc_extern Tryd.func48 (by kernel_rfl) (by kernel_rfl) (by kernel_rfl) (e := Extern.SlicesOverlaps.overlaps #[23, 23] #[4]) (by kernel_rfl),
    Lib.run_overlaps_apart w 23 4 32 Tryd.underlying23 3 hz ⟨gv, 0, none⟩ ⟨g, off, none⟩ la ca lb cb hne 32 32 kA (cap * 3) (by simp [World.shape?, hv, hk]) (by simp [World.shape?, R.h, R.len]) (by omega) (by simp [World.frozen?, hv]) (by simp [World.frozen?, hv])]
  rfl

set_option maxHeartbeats 2000000 in
theorem bIns_end (w : World) (base g N cap i gv : Nat) (l : List Bk) (b : Bk) (hi : i = N) (hN : N ≤ 300) (own : w.ownsRow base 32 3 (.slice (some ⟨g, 0, none⟩) N cap) N (bvals l)) (hv : w.heap[gv]? = some (.cells #[.int .i64 b.a, .int .i64 b.o, .int .i64 b.t] 32 (0, 0))) (_hne : gv ≠ g) :
    Calls Tryd.prog 45 #[.slice (some ⟨g, 0, none⟩) N cap, .int .i64 i, .slice (some ⟨gv, 0, none⟩) 1 1] w fun e w' => RetRow w w' base g (N + 1) (insB l i b) e := by
  obtain ⟨i1, hj, hy0, hy1, hy2⟩ := info_parts info_block
  have hll := bowns_len own
  obtain ⟨hbg, hnc, cur, R, hcur⟩ := Row.of own
  have hm := R.m
  have hml : N + 1 ≤ maxLen := by unfold maxLen; omega
  unfold maxLen at hm
  have hRl := R.len
  have hvc : ∀ j v, ([.int .i64 b.a, .int .i64 b.o, .int .i64 b.t] : List Value)[j]? = some v → ∀ W : World, W.heap[gv]? = some (.cells #[.int .i64 b.a, .int .i64 b.o, .int .i64 b.t] 32 (0, 0)) → W.cell? ((⟨gv, 0, none⟩ : Addr).add j) = some v := by
    intro j v hjv W hW
    rw [add_at, Nat.zero_add]
    simp only [World.cell?, hW]
    simpa using hjv
  have hv1 : ∀ u ∈ ([.int .i64 b.a, .int .i64 b.o, .int .i64 b.t] : List Value), u.oneCell' = true := ints_oneCell .i64 [_, _, _]
  obtain ⟨vs, hvs⟩ : ∃ vs : List Value, [.int .i64 b.a, .int .i64 b.o, .int .i64 b.t] = vs := ⟨_, rfl⟩
  have hvl : vs.length = 3 := by rw [← hvs]; rfl
  have HVA : (#[.int .i64 b.a, .int .i64 b.o, .int .i64 b.t] : Array Value) = vs.toArray := by rw [← hvs]
  have HI : Hid (bvals (insB l i b) = bvals (l.take i) ++ (vs ++ bvals (l.drop i))) := by show _ = _; rw [insB_vals, hvs]
  rw [HVA] at hv hvc
  rw [hvs] at hvc hv1
  have HVC : Hid _ := hvc
  clear hvs HVA hvc
  have a1 : (i : Int) ≤ N := by omega
  have a2 : ((1 : Int) == 0) = false := by decide
  have a3 : (N : Int) ≤ cap := by omega
  have HE : Hid (bvals l ++ vs = bvals (insB l i b)) := by
    show _ = _
    rw [HI.out, List.take_of_length_le (by omega), List.drop_of_length_le (by omega)]
    simp [bvals]
  subst hi
  have hc1 : ∀ j v, vs[j]? = some v → w.cell? ((⟨gv, 0, none⟩ : Addr).add j) = some v := fun j v h => HVC.out j v h w hv
  by_cases hroom : i + 1 ≤ cap
  · go_enter Tryd.func45, Tryd.ntmps45
    go_wp2_with (at_builtin; refine wpList_append_fits _ rfl (.tmp 23) (.tmp 24) 23 rfl base 32 i1 3 Tryd.underlying23 hj hy1 g i cap (bvals l) rfl own ⟨gv, 0, none⟩ 1 1 vs rfl hvl hc1 hv1 hroom ?_; intro w1 ho1 hb1)
    all_goals
      go_ret
      exact ⟨g, cap, rfl, by rw [← HE.out]; exact ho1, ⟨hb1.os, hb1.tape, hb1.output, hb1.size, fun k hk hne => hb1.block k hk (by intro g; exact hne (by simpa using g))⟩, .inl rfl⟩
  · have hold : ∀ j v, (bvals l)[j]? = some v → w.cell? ((⟨g, 0, none⟩ : Addr).add j) = some v := own.cells rfl
    obtain ⟨cap', W, cur', hrun, R', ht, hc', hb'⟩ := grow_some (P := Tryd.prog) w 23 23 32 i1 _ 3 Tryd.underlying23 hj hy0 hy1 rfl ⟨g, 0, none⟩ i cap (bvals l) own.1 hold ⟨gv, 0, none⟩ 1 1 vs hvl hc1 (by omega) hml (by rw [hy2]; omega)
    have ow' := R'.owns (base := base) (n := i + 1) (by have := R.lt; omega) hc' ht
    have HR : Hid _ := hrun
    clear hrun
    go_enter Tryd.func45, Tryd.ntmps45
    go_wp2_with (at_builtin; refine Lib.wpList_append_run _ rfl (.tmp 23) (.tmp 24) 23 23 rfl _ _ rfl rfl _ _ HR.out ?_)
    all_goals
      go_ret
      exact ⟨w.heap.size, cap', rfl, by rw [← HE.out]; exact ow', .of_below hb', .inr (Nat.le_refl _)⟩

end Go.Proofs.YtffhpjjioefaeafDoor

/-
  OWN TEXT. Contract of slices.Insert at one block: there is room.
-/
namespace Go.Proofs.YtffhpjjioefaeafDoor
open Go Go.RowKit Go.Proofs.YtffhpjjioefaeafDoor.Kit

set_option maxHeartbeats 600000 in
theorem bIns_shift (w : World) (base g N cap i gv : Nat) (l : List Bk) (b : Bk) (hi : i < N) (hN : N ≤ 300) (hroom : N + 1 ≤ cap) (own : w.ownsRow base 32 3 (.slice (some ⟨g, 0, none⟩) N cap) N (bvals l)) (hv : w.heap[gv]? = some (.cells #[.int .i64 b.a, .int .i64 b.o, .int .i64 b.t] 32 (0, 0))) (hne : gv ≠ g) :
    Calls Tryd.prog 45 #[.slice (some ⟨g, 0, none⟩) N cap, .int .i64 i, .slice (some ⟨gv, 0, none⟩) 1 1] w fun e w' => RetRow w w' base g (N + 1) (insB l i b) e := by
  obtain ⟨i1, hj, hy0, hy1, hy2⟩ := info_parts info_block
  have hll := bowns_len own
  obtain ⟨hbg, hnc, cur, R, hcur⟩ := Row.of own
  have hm := R.m
  have hml : N + 1 ≤ maxLen := by unfold maxLen; omega
  unfold maxLen at hm
  have hRl := R.len
  have hvc : ∀ j v, ([.int .i64 b.a, .int .i64 b.o, .int .i64 b.t] : List Value)[j]? = some v → ∀ W : World, W.heap[gv]? = some (.cells #[.int .i64 b.a, .int .i64 b.o, .int .i64 b.t] 32 (0, 0)) → W.cell? ((⟨gv, 0, none⟩ : Addr).add j) = some v := by
    intro j v hjv W hW
    rw [add_at, Nat.zero_add]
    simp only [World.cell?, hW]
    simpa using hjv
  have hv1 : ∀ u ∈ ([.int .i64 b.a, .int .i64 b.o, .int .i64 b.t] : List Value), u.oneCell' = true := ints_oneCell .i64 [_, _, _]
  obtain ⟨vs, hvs⟩ : ∃ vs : List Value, [.int .i64 b.a, .int .i64 b.o, .int .i64 b.t] = vs := ⟨_, rfl⟩
  have hvl : vs.length = 3 := by rw [← hvs]; rfl
  have HVA : (#[.int .i64 b.a, .int .i64 b.o, .int .i64 b.t] : Array Value) = vs.toArray := by rw [← hvs]
  have HI : Hid (bvals (insB l i b) = bvals (l.take i) ++ (vs ++ bvals (l.drop i))) := by show _ = _; rw [insB_vals, hvs]
  rw [HVA] at hv hvc
  rw [hvs] at hvc hv1
  have HVC : Hid _ := hvc
  clear hvs HVA hvc
  have a1 : (i : Int) ≤ N := by omega
  have a2 : ((1 : Int) == 0) = false := by decide
  have a3 : (N : Int) ≤ cap := by omega
  obtain ⟨XS, hXS⟩ : ∃ XS, XS = bvals (l.drop i) := ⟨_, rfl⟩
  have hXl : XS.length = (N - i) * 3 := by rw [hXS, length_bvals, List.length_drop, hll]
  have hX1 : ∀ u ∈ XS, u.oneCell' = true := by rw [hXS]; exact bvals_oneCell _
  have hXc : ∀ j u, XS[j]? = some u → cur[i * 3 + j]? = some u := by
    intro j u hu
    rw [hXS, ← bvals_drop, List.getElem?_drop] at hu
    rw [← hcur, List.getElem?_take] at hu
    split at hu
    · exact hu
    · cases hu
  have HI2 : Hid (bvals (insB l i b) = cur.take (i * 3) ++ (vs ++ XS)) := by
    show _ = _
    rw [HI.out, hXS, take_cut hcur (Nat.mul_le_mul_right 3 (show i ≤ N by omega)), bvals_take]
  have HXc : Hid _ := hXc
  clear hXS hXc HI hcur
  have b1 : ((i : Int) == (N : Int)) = false := by simp; omega
  have b2 : ¬ (cap = i) := by omega
  have b3 : (i : Int) ≤ (N : Int) + 1 := by omega
  have b4 : (i : Int) + 1 ≤ (N : Int) + 1 := by omega
  have b5 : ((i : Int) + 1).toNat = i + 1 := by omega
  have b6 : ((N : Int) + 1).toNat = N + 1 := by omega
  have b7 : (0 : Int) ≤ (i : Int) + 1 := by omega
  have b8 : (0 : Int) ≤ (N : Int) + 1 := by omega
  have b9 : i ≤ N := by omega
  have b10 : i ≤ cap := by omega
  have b11 : (i : Int) ≤ cap := by omega
  have bw : IntKind.i64.wrap ((i : Int) + 1) = (i : Int) + 1 := by rw [IntKind.wrap_i64]; omega
  have hov : ∀ lb cb, (callFunc 48 #[.slice (some ⟨gv, 0, none⟩) 1 1, .slice (some ⟨g, (i + 1) * 3, none⟩) lb cb]).run Tryd.prog w = .ok (.value (.bool false)) w := fun lb cb => ov_false w g gv _ lb cb 1 1 cur vs cap 3 R hv hvl hne (by omega)
  have b12 : ¬ (cap = i + 1) := by omega
  have b13 : ¬ ((cap : Int) < (N : Int) + 1) := by omega
  have b14 : (N : Int) + 1 ≤ (cap : Int) := by omega
  have RD := R.below (Below.refl w.heap.size w).drew
  have hv2 : w.drew.heap[gv]? = some (.cells vs.toArray 32 (0, 0)) := hv
  clear own
  go_enter Tryd.func45, Tryd.ntmps45
  go_wp2_with (simp only [hov])
  go_region_law (refine step_copy_k rfl (.tmp 73) (.tmp 76) 23 23 rfl 32 3 Tryd.underlying23 size_block (some ⟨g, (i + 1) * 3, none⟩) (some ⟨g, i * 3, none⟩) (N - i) (cap - (i + 1)) (N + 1 - i) (cap - i) (by simp [Act.eval, Act.put]) (by simp [Act.eval, Act.put]) g ((i + 1) * 3) cur 32 RD.h XS (N - i) (by simp only [Nat.min_def]; split <;> omega) hXl (fun _ => ⟨rfl, _, rfl, fun j v hj => by rw [add_at, RD.cell]; exact HXc.out j v hj⟩) (by omega) hX1 ?_; intro w1 hg1 hb1)
  all_goals
    have hv3 : w1.heap[gv]? = some (.cells vs.toArray 32 (0, 0)) := (hb1.block gv (Array.getElem?_eq_some_iff.1 hv2).1 hne).trans hv2
    clear hov RD
    go_wp2_with (refine wpList_copy_k rfl (.tmp 80) (.tmp 81) 23 23 rfl 32 3 Tryd.underlying23 size_block _ _ _ _ _ _ rfl rfl g (i * 3) (splice cur ((i + 1) * 3) XS) 32 hg1.out vs 1 (by simp only [Nat.min_def]; split <;> omega) hvl (fun _ => ⟨rfl, _, rfl, fun j v hj => HVC.out j v hj w1 hv3⟩) (by rw [length_splice _ _ _ (by omega)]; omega) hv1 ?_; intro w2 hg2 hb2)
    go_ret
    have e3 : (i + 1) * 3 = i * 3 + vs.length := by omega
    have hl2 : (splice (splice cur ((i + 1) * 3) XS) (i * 3) vs).length = cap * 3 := by rw [length_splice _ _ _ (by rw [length_splice _ _ _ (by omega)]; omega), length_splice _ _ _ (by omega)]; exact hRl
    have R2 : Row w2 32 3 g cap (splice (splice cur ((i + 1) * 3) XS) (i * 3) vs) := ⟨hg2.out, hl2, R.m⟩
    refine ⟨g, cap, rfl, R2.owns hbg hroom ?_, ((But.of_below (Below.refl _ _).drew).trans hb1).trans hb2, .inl rfl⟩
    rw [HI2.out, e3, show (N + 1) * 3 = i * 3 + vs.length + XS.length by omega]
    exact splice_two_b (by omega)

end Go.Proofs.YtffhpjjioefaeafDoor

/-
  OWN TEXT. Contract of slices.Insert at one block: there is no room.
-/
namespace Go.Proofs.YtffhpjjioefaeafDoor
open Go Go.RowKit Go.Proofs.YtffhpjjioefaeafDoor.Kit

set_option maxHeartbeats 600000 in
theorem bIns_grow (w : World) (base g N cap i gv : Nat) (l : List Bk) (b : Bk) (hi : i < N) (hN : N ≤ 300) (hroom : cap = N) (own : w.ownsRow base 32 3 (.slice (some ⟨g, 0, none⟩) N cap) N (bvals l)) (hv : w.heap[gv]? = some (.cells #[.int .i64 b.a, .int .i64 b.o, .int .i64 b.t] 32 (0, 0))) (_hne : gv ≠ g) :
    Calls Tryd.prog 45 #[.slice (some ⟨g, 0, none⟩) N cap, .int .i64 i, .slice (some ⟨gv, 0, none⟩) 1 1] w fun e w' => RetRow w w' base g (N + 1) (insB l i b) e := by
  subst hroom
  obtain ⟨i1, hj, hy0, hy1, hy2⟩ := info_parts info_block
  have hll := bowns_len own
  obtain ⟨hbg, hnc, cur, R, hcur⟩ := Row.of own
  have hm := R.m
  have hml : cap + 1 ≤ maxLen := by unfold maxLen; omega
  unfold maxLen at hm
  have hRl := R.len
  have hvc : ∀ j v, ([.int .i64 b.a, .int .i64 b.o, .int .i64 b.t] : List Value)[j]? = some v → ∀ W : World, W.heap[gv]? = some (.cells #[.int .i64 b.a, .int .i64 b.o, .int .i64 b.t] 32 (0, 0)) → W.cell? ((⟨gv, 0, none⟩ : Addr).add j) = some v := by
    intro j v hjv W hW
    rw [add_at, Nat.zero_add]
    simp only [World.cell?, hW]
    simpa using hjv
  have hv1 : ∀ u ∈ ([.int .i64 b.a, .int .i64 b.o, .int .i64 b.t] : List Value), u.oneCell' = true := ints_oneCell .i64 [_, _, _]
  obtain ⟨vs, hvs⟩ : ∃ vs : List Value, [.int .i64 b.a, .int .i64 b.o, .int .i64 b.t] = vs := ⟨_, rfl⟩
  have hvl : vs.length = 3 := by rw [← hvs]; rfl
  have HVA : (#[.int .i64 b.a, .int .i64 b.o, .int .i64 b.t] : Array Value) = vs.toArray := by rw [← hvs]
  have HI : Hid (bvals (insB l i b) = bvals (l.take i) ++ (vs ++ bvals (l.drop i))) := by show _ = _; rw [insB_vals, hvs]
  rw [HVA] at hv hvc
  rw [hvs] at hvc hv1
  have HVC : Hid _ := hvc
  clear hvs HVA hvc
  have a1 : (i : Int) ≤ cap := by omega
  have a2 : ((1 : Int) == 0) = false := by decide
  have a3 : (cap : Int) ≤ cap := by omega
  obtain ⟨XS, hXS⟩ : ∃ XS, XS = bvals (l.drop i) := ⟨_, rfl⟩
  have hXl : XS.length = (cap - i) * 3 := by rw [hXS, length_bvals, List.length_drop, hll]
  have hX1 : ∀ u ∈ XS, u.oneCell' = true := by rw [hXS]; exact bvals_oneCell _
  have hXc : ∀ j u, XS[j]? = some u → cur[i * 3 + j]? = some u := by
    intro j u hu
    rw [hXS, ← bvals_drop, List.getElem?_drop] at hu
    rw [← hcur, List.getElem?_take] at hu
    split at hu
    · exact hu
    · cases hu
  have HI2 : Hid (bvals (insB l i b) = cur.take (i * 3) ++ (vs ++ XS)) := by
    show _ = _
    rw [HI.out, hXS, take_cut hcur (Nat.mul_le_mul_right 3 (show i ≤ cap by omega)), bvals_take]
  have HXc : Hid _ := hXc
  clear hXS hXc HI hcur
  have b1 : ((i : Int) == (cap : Int)) = false := by simp; omega
  have b2 : ¬ (cap = i) := by omega
  have b3 : (i : Int) ≤ (cap : Int) + 1 := by omega
  have b4 : (i : Int) + 1 ≤ (cap : Int) + 1 := by omega
  have b5 : ((i : Int) + 1).toNat = i + 1 := by omega
  have b6 : ((cap : Int) + 1).toNat = cap + 1 := by omega
  have b7 : (0 : Int) ≤ (i : Int) + 1 := by omega
  have b8 : (0 : Int) ≤ (cap : Int) + 1 := by omega
  have b9 : i ≤ cap := by omega
  have b10 : i ≤ cap := by omega
  have b11 : (i : Int) ≤ cap := by omega
  have bw : IntKind.i64.wrap ((i : Int) + 1) = (i : Int) + 1 := by rw [IntKind.wrap_i64]; omega
  obtain ⟨K, hK⟩ : ∃ K : Nat, (cap : Int) + 1 - i = (K : Int) := ⟨cap + 1 - i, by omega⟩
  obtain ⟨cap', W, cur', hrun, R', ht, hc', hb'⟩ := grow_zeros (P := Tryd.prog) w 23 3 23 32 i1 _ 3 .i64 .i64 Tryd.underlying23 Tryd.underlying3 hj hy0 hy1 (by omega) rfl ⟨g, 0, none⟩ i cap (cur.take (i * 3)) (by rw [List.length_take]; omega) (fun j v hj => by
    rw [add_at, Nat.zero_add, R.cell]
    rw [List.getElem?_take] at hj
    split at hj
    · exact hj
    · cases hj) K (by omega) (by omega) (by unfold maxLen; omega) (by rw [hy2]; omega)
  have hiK : i + K = cap + 1 := by omega
  rw [hiK] at hrun hc'
  have hcl' := R'.len
  have hg' := R.lt
  have HR : Hid _ := hrun
  have c1 : ¬ (cap' = i) := by omega
  have c2 : ¬ (cap' = i + 1) := by omega
  have c3 : (cap : Int) < (cap : Int) + 1 := by omega
  have hv3 : W.heap[gv]? = some (.cells vs.toArray 32 (0, 0)) := (hb'.block gv (Array.getElem?_eq_some_iff.1 hv).1).trans hv
  have RW := R.below hb'
  clear hrun own
  go_enter Tryd.func45, Tryd.ntmps45
  go_wp2_with (first
    | (at_builtin; refine Lib.wpList_append_run _ rfl (.tmp 34) (.tmp 39) 23 3 rfl _ _ rfl rfl _ _ HR.out ?_)
    | (refine wpList_copy_k rfl (.tmp 43) (.tmp 44) 23 23 rfl 32 3 Tryd.underlying23 size_block _ _ _ _ _ _ rfl rfl w.heap.size (i * 3) cur' 32 R'.h vs 1 (by simp only [Nat.min_def]; split <;> omega) hvl (fun _ => ⟨rfl, _, rfl, fun j v hj => HVC.out j v hj W hv3⟩) (by omega) hv1 ?_; intro w2 hg2 hb2))
  have RD := (RW.but hb2 (by omega)).below (Below.refl w2.heap.size w2).drew
  have hgd : w2.drew.heap[w.heap.size]? = some (.cells (splice cur' (i * 3) vs).toArray 32 (0, 0)) := hg2.out
  go_region_law (refine step_copy_k rfl (.tmp 50) (.tmp 53) 23 23 rfl 32 3 Tryd.underlying23 size_block (some ⟨w.heap.size, (i + 1) * 3, none⟩) (some ⟨g, i * 3, none⟩) (cap - i) (cap' - (i + 1)) (cap - i) (cap - i) (by simp [Act.eval, Act.put]) (by simp [Act.eval, Act.put]) w.heap.size ((i + 1) * 3) (splice cur' (i * 3) vs) 32 hgd XS (cap - i) (by simp only [Nat.min_def]; split <;> omega) hXl (fun _ => ⟨rfl, _, rfl, fun j v hj => by rw [add_at, RD.cell]; exact HXc.out j v hj⟩) (by rw [length_splice _ _ _ (by omega)]; omega) hX1 ?_; intro w3 hg3 hb3)
  all_goals
    clear RD
    go_wp2
    go_ret
    have e3 : (i + 1) * 3 = i * 3 + vs.length := by omega
    have hl2 : (splice (splice cur' (i * 3) vs) ((i + 1) * 3) XS).length = cap' * 3 := by rw [length_splice _ _ _ (by rw [length_splice _ _ _ (by omega)]; omega), length_splice _ _ _ (by omega)]; exact hcl'
    have R2 : Row w3 32 3 w.heap.size cap' (splice (splice cur' (i * 3) vs) ((i + 1) * 3) XS) := ⟨hg3.out, hl2, R'.m⟩
    refine ⟨w.heap.size, cap', rfl, R2.owns (by omega) hc' ?_, ?_, .inr (Nat.le_refl _)⟩
    · rw [HI2.out, e3, show (cap + 1) * 3 = i * 3 + vs.length + XS.length by omega, splice_two_a (by omega), ht]
    · have hbl : Below w.heap.size w w3 := hb'.trans ((hb2.trans ((But.of_below (Below.refl _ _).drew).trans hb3)).below (Nat.le_refl _) hb'.size)
      exact .of_below hbl

end Go.Proofs.YtffhpjjioefaeafDoor

/-
  OWN TEXT. Contract of slices.Insert at one block: all ways.
-/
namespace Go.Proofs.YtffhpjjioefaeafDoor
open Go Go.RowKit Go.Proofs.YtffhpjjioefaeafDoor.Kit

theorem bIns_any (w : World) (base g N cap i gv : Nat) (l : List Bk) (b : Bk) (hi : i ≤ N) (hN : N ≤ 300) (own : w.ownsRow base 32 3 (.slice (some ⟨g, 0, none⟩) N cap) N (bvals l)) (hv : w.heap[gv]? = some (.cells #[.int .i64 b.a, .int .i64 b.o, .int .i64 b.t] 32 (0, 0))) (hne : gv ≠ g) :
    Calls Tryd.prog 45 #[.slice (some ⟨g, 0, none⟩) N cap, .int .i64 i, .slice (some ⟨gv, 0, none⟩) 1 1] w fun e w' => RetRow w w' base g (N + 1) (insB l i b) e := by
  have := owns_cap own
  by_cases h1 : i = N
  · exact bIns_end w base g N cap i gv l b h1 hN own hv hne
  · by_cases h2 : N + 1 ≤ cap
    · exact bIns_shift w base g N cap i gv l b (by omega) hN h2 own hv hne
    · exact bIns_grow w base g N cap i gv l b (by omega) hN (by omega) own hv hne

end Go.Proofs.YtffhpjjioefaeafDoor

/-
  OWN TEXT. Contract of the code: buddy.put.
-/
namespace Go.Proofs.YtffhpjjioefaeafDoor
open Go Go.RowKit Go.Proofs.YtffhpjjioefaeafDoor.Kit

theorem shl_one (o : Int) (h : ordOk o) (W : World) : (binOp .shl 3 (.int .i64 1) (.int .i64 o)).run Tryd.prog W = .ok (.int .i64 (pw o)) W := by
  rcases ord_cases h with ⟨rfl, e⟩ | ⟨rfl, e⟩ | ⟨rfl, e⟩ | ⟨rfl, e⟩ | ⟨rfl, e⟩ <;> (rw [e]; rfl)

set_option maxHeartbeats 2000000 in
theorem putF1_any (W : World) (b1 b2 : Nat) (E a : Int) (ba bo bt : Int) (c1 : W.cell? ⟨b1, 0, none⟩ = some (.int .i64 E)) (c2 : W.cell? ⟨b2, 0, none⟩ = some (.int .i64 a)) (ho : ordOk bo) (h0 : 0 ≤ ba) (h1 : ba ≤ 256) :
    Calls Tryd.prog 41 (#[.agg #[.int .i64 ba, .int .i64 bo, .int .i64 bt]] ++ #[.pointer (some ⟨b1, 0, none⟩), .pointer (some ⟨b2, 0, none⟩)]) W fun e W' => e = .returned (.bool (ovl1 E a ⟨ba, bo, bt⟩)) ∧ Below W.heap.size W W' := by
  have hb0 := below_box W (.cells #[.int .i64 ba, .int .i64 bo, .int .i64 bt] 32)
  have d1 := keep c1 hb0
  have d2 := keep c2 hb0
  have l0 : (W.alloc (.cells #[.int .i64 ba, .int .i64 bo, .int .i64 bt] 32)).cell? ⟨W.heap.size, 0, none⟩ = some (.int .i64 ba) := by go_simp
  have l1 : (W.alloc (.cells #[.int .i64 ba, .int .i64 bo, .int .i64 bt] 32)).cell? ⟨W.heap.size, 1, none⟩ = some (.int .i64 bo) := by go_simp
  have l2 : (W.alloc (.cells #[.int .i64 ba, .int .i64 bo, .int .i64 bt] 32)).cell? ⟨W.heap.size, 2, none⟩ = some (.int .i64 bt) := by go_simp
  obtain ⟨W0, hW0⟩ : ∃ W0, W.alloc (.cells #[.int .i64 ba, .int .i64 bo, .int .i64 bt] 32) = W0 := ⟨_, rfl⟩
  rw [hW0] at hb0 d1 d2 l0 l1 l2
  have HW0 : Hid _ := hW0
  obtain ⟨T, hT⟩ : ∃ T, ba + pw bo = T := ⟨_, rfl⟩
  have HB : Hid (∀ V, Below W0.heap.size W0 V → Calls Tryd.prog 42 #[.agg #[.int .i64 ba, .int .i64 bo, .int .i64 bt]] V fun e w' => e = .returned (.int .i64 T) ∧ Below W0.heap.size W0 w') := fun V hS => by
    rw [← hT]
    refine (behind_any V ba bo bt ho h0 h1).mono ?_
    rintro e w' ⟨rfl, hb⟩
    exact ⟨rfl, hS.trans (hb.mono hS.size)⟩
  have S0 : Below W0.heap.size W0 W0 := Below.refl _ _
  have m1 : ∀ wx, Below W0.heap.size W0 wx → wx.cell? ⟨b1, 0, none⟩ = some (.int .i64 E) := fun wx h => keep d1 h
  have m2 : ∀ wx, Below W0.heap.size W0 wx → wx.cell? ⟨b2, 0, none⟩ = some (.int .i64 a) := fun wx h => keep d2 h
  clear c1 c2 hW0
  by_cases g1 : ba < E
  · have HF : Hid (decide (a < T) = ovl1 E a ⟨ba, bo, bt⟩) := by
      show _ = decide (_ ∧ _)
      rw [← hT]; simp [g1]
    have g1' : decide (ba < E) = true := decide_eq_true g1
    clear hT
    go_enter Tryd.func41, Tryd.ntmps41
    go_wp2_with (rw [HW0.out])
    go_region_with (first | (go_at_call 42; refine (HB.out _ ?_).mono ?_; (first | exact Below.drew S0 | assumption); rintro e w6 ⟨rfl, hS6⟩; have a0 := m1 _ hS6; have a1 := m2 _ hS6))
    all_goals
      go_wp2
      go_ret
      exact ⟨ret_bool HF.out, hb0.trans (hS6.mono hb0.size)⟩
  · have HF : Hid (false = ovl1 E a ⟨ba, bo, bt⟩) := by
      show _ = decide (_ ∧ _)
      simp [g1]
    have g1' : decide (ba < E) = false := decide_eq_false g1
    clear hT
    go_enter Tryd.func41, Tryd.ntmps41
    go_wp2_with (rw [HW0.out])
    go_region_with (first | (go_at_call 42; refine (HB.out _ ?_).mono ?_; (first | exact Below.drew S0 | assumption); rintro e w6 ⟨rfl, hS6⟩; have a0 := m1 _ hS6; have a1 := m2 _ hS6))
    all_goals
      go_wp2
      go_ret
      exact ⟨ret_bool HF.out, hb0.trans ((Below.drew S0).mono hb0.size)⟩
theorem putF1_call (args : Array Value) (W : World) : (callFunc 41 args).run Tryd.prog W = .ok (.enter 41 args) W := by kernel_rfl

set_option maxHeartbeats 1000000 in
theorem putF2_any (W : World) (b1 : Nat) (a : Int) (ba bo bt : Int) (c1 : W.cell? ⟨b1, 0, none⟩ = some (.int .i64 a)) :
    Calls Tryd.prog 44 (#[.agg #[.int .i64 ba, .int .i64 bo, .int .i64 bt]] ++ #[.pointer (some ⟨b1, 0, none⟩)]) W fun e W' => e = .returned (.bool (decide (a < ba))) ∧ Below W.heap.size W W' := by
  have hb0 := below_box W (.cells #[.int .i64 ba, .int .i64 bo, .int .i64 bt] 32)
  have d1 := keep c1 hb0
  clear c1
  go_enter Tryd.func44, Tryd.ntmps44
  go_wp2
  go_ret
  exact ⟨rfl, hb0⟩
theorem putF2_call (args : Array Value) (W : World) : (callFunc 44 args).run Tryd.prog W = .ok (.enter 44 args) W := by kernel_rfl

/-- The place of a new block. -/
theorem addB_at {l : List Bk} {b : Bk} {i : Nat} (hi : i ≤ l.length) (h1 : ∀ j, j < i → ¬ b.a < (l.getD j .zero).a) (h2 : i < l.length → b.a < (l.getD i .zero).a) : addB l b = insB l i b := by
  induction l generalizing i with
  | nil => obtain rfl : i = 0 := by simpa using hi
           rfl
  | cons x l ih =>
    cases i with
    | zero =>
      have : x.a > b.a := by have := h2 (by simp); simpa using this
      unfold addB
      rw [if_pos this]
      rfl
    | succ i =>
      have : ¬ x.a > b.a := by have := h1 0 (by omega); simpa using this
      unfold addB
      rw [if_neg this, ih (by simpa using hi) (fun j hj => by have := h1 (j + 1) (by omega); simpa using this) (fun hh => by have := h2 (by simpa using hh); simpa using this)]
      rfl

end Go.Proofs.YtffhpjjioefaeafDoor
