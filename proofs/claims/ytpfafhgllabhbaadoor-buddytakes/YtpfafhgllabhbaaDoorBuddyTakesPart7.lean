/-
  OWN TEXTS, bundled: ZcPut2, AppK3, ZcHalves, BRep, BRep2, BRep3.
-/
import Derived.Test.YtpfafhgllabhbaaDoorBuddyTakesPart6
import Derived.Test.YtpfafhgllabhbaaDoorBuddyTakesPart4
import Derived.Deep.RegionHeld3

/-
  OWN TEXT. Contract of the code: buddy.put, whole.
-/
namespace Go.Proofs.YtpfafhgllabhbaaDoor
open Go Go.RowKit Go.Proofs.YtpfafhgllabhbaaDoor.Kit

theorem may_len {z : Zn} (h : ZMay z) : z.free.length ≤ 256 := by
  have := freeOk_count h.free h.new.2.2.2.2 h.new.2.1
  have := h.new.2.2.1
  have := h.new.1
  omega
theorem may_blk {z : Zn} (h : ZMay z) : ∀ b ∈ z.free, blkIn z.f z.t b.a b.o := by
  intro b hb
  obtain ⟨i, hi, rfl⟩ := List.getElem_of_mem hb
  have := (freeOk_at h.free hi rfl).1
  rw [List.getD_eq_getElem?_getD, List.getElem?_eq_getElem hi] at this
  exact this

theorem wrap_pw (o : Int) (h : ordOk o) : IntKind.i64.wrap ((2 : Int) ^ o.toNat) = pw o := by
  rcases ord_cases h with ⟨rfl, e⟩ | ⟨rfl, e⟩ | ⟨rfl, e⟩ | ⟨rfl, e⟩ | ⟨rfl, e⟩ <;> (rw [e]; rfl)

set_option maxHeartbeats 4000000 in
theorem put_twice (w : World) (base zb g n cap k tn tk : Nat) (z : Zn) (a o : Int) (Z : Zo w base zb g n cap k tn tk z) (hM : ZMay z) (hA : blkIn z.f z.t a o) (hv : ovlP z.free a o) :
    Calls Tryd.prog 48 #[.pointer (some ⟨zb, 0, none⟩), .int .i64 a, .int .i64 o] w fun e w' => e = .returned (.int .i64 5) ∧ Below w.heap.size w w' := by
  obtain ⟨⟨o0, o4⟩, a1, a2, a3⟩ := id hA
  obtain ⟨n1, n2, n3, n4, n5⟩ := hM.new
  have hzl := Z.box.lt
  have hgl := Z.glt
  have hkl := Z.klt
  have hp1 := pw_pos o
  have hp2 := pw_le (o := o) ⟨o0, o4⟩
  have hw1 := wrap_pw o ⟨o0, o4⟩
  obtain ⟨P, hP⟩ : ∃ P, pw o = P := ⟨_, rfl⟩
  have HP : Hid (pw o = P) := hP
  rw [hP] at hw1 hp1 hp2
  have hw2 : IntKind.i64.wrap (a + P) = a + P := IntWalk.i64_in _ (by omega)
  have s0 : (w.alloc (.cells #[.int .i64 a] 3)).cell? ⟨w.heap.size, 0, none⟩ = some (.int .i64 a) := by simp
  have hb1 : Below w.heap.size w (((w.alloc (.cells #[.int .i64 a] 3)).alloc (.cells #[.int .i64 (a + P)] 3)).drew) := (((Below.refl _ _).alloc (Nat.le_refl _) _).alloc (by simp) _).drew
  have p1 : (((w.alloc (.cells #[.int .i64 a] 3)).alloc (.cells #[.int .i64 (a + P)] 3)).drew).cell? ⟨w.heap.size, 0, none⟩ = some (.int .i64 a) := by go_simp
  have p2 : (((w.alloc (.cells #[.int .i64 a] 3)).alloc (.cells #[.int .i64 (a + P)] 3)).drew).cell? ⟨w.heap.size + 1, 0, none⟩ = some (.int .i64 (a + P)) := by go_simp
  have p3 : (((w.alloc (.cells #[.int .i64 a] 3)).alloc (.cells #[.int .i64 (a + P)] 3)).drew).frozen? ⟨w.heap.size, 0, none⟩ = false := by go_simp
  have p4 : (((w.alloc (.cells #[.int .i64 a] 3)).alloc (.cells #[.int .i64 (a + P)] 3)).drew).heap.size = w.heap.size + 2 := by simp
  obtain ⟨W1, hW1⟩ : ∃ W1, ((w.alloc (.cells #[.int .i64 a] 3)).alloc (.cells #[.int .i64 (a + P)] 3)).drew = W1 := ⟨_, rfl⟩
  have HW1 : Hid _ := hW1
  rw [hW1] at hb1 p1 p2 p3 p4
  have Z1 := Z.below hb1
  have y2 := Z1.box.c2
  have hlen := bowns_len Z1.own
  have hl256 := may_len hM
  have hHold : HoldsB 53 #[.pointer (some ⟨w.heap.size + 1, 0, none⟩), .pointer (some ⟨w.heap.size, 0, none⟩)] z.free (ovl1 (a + P) a) W1 := fun i hi W hb => by
    have hB := (freeOk_at hM.free hi rfl).1
    exact putF1_any W _ _ (a + P) a _ _ _ (keep p2 hb) (keep p1 hb) hB.1 (by have := hB.2.1; omega) (by have := hB.2.2.1; omega)
  have HCt := bContains_any W1 53 #[.pointer (some ⟨w.heap.size + 1, 0, none⟩), .pointer (some ⟨w.heap.size, 0, none⟩)] (some ⟨g, 0, none⟩) n cap z.free (ovl1 (a + P) a) (blks_own Z1.own (by omega)) putF1_call hHold
  clear hP hW1 hHold
  go_enter Tryd.func48, Tryd.ntmps48
  go_wp2_with fail
  go_region_held3 (fun wx => wx.cell? ⟨w.heap.size, 0, none⟩ = some (.int .i64 a)) (first | assumption | go_keep) (fail)
  rw [HW1.out]
  go_wp2_with fail
  go_at_call 52
  refine HCt.mono ?_
  rintro e W2 ⟨rfl, hb2⟩
  have hbb := hb1.trans (hb2.mono hb1.size)
  have hany : z.free.any (ovl1 (a + P) a) = true := by have := (ovl_any z.free a o).2 hv; rw [HP.out] at this; exact this
  rw [hany]
  clear hany HCt Z Z1 HW1 hM hv hA
  go_wp2
  go_ret
  exact ⟨rfl, hbb⟩

/-- What the last statement of put reads. -/
structure PutF (ab zb k K g n cap : Nat) (f t A x : Int) (tv : Value) (W : World) : Prop where
  a : W.cell? ⟨ab, 0, none⟩ = some (.int .i64 A)
  c0 : W.cell? ⟨zb, 0, none⟩ = some (.int .i64 f)
  c1 : W.cell? ⟨zb, 1, none⟩ = some (.int .i64 t)
  c2 : W.cell? ⟨zb, 2, none⟩ = some (.slice (some ⟨g, 0, none⟩) n cap)
  c3 : W.cell? ⟨zb, 3, none⟩ = some tv
  e : W.cell? ⟨k, K, none⟩ = some (.int .i64 x)
theorem PutF.below {ab zb k K g n cap : Nat} {f t A x : Int} {tv : Value} {W W' : World} (h : PutF ab zb k K g n cap f t A x tv W) (hb : Below W.heap.size W W') : PutF ab zb k K g n cap f t A x tv W' := ⟨keep h.a hb, keep h.c0 hb, keep h.c1 hb, keep h.c2 hb, keep h.c3 hb, keep h.e hb⟩
theorem PutF.but {ab zb k K g n cap c : Nat} {f t A x : Int} {tv : Value} {W W' : World} (h : PutF ab zb k K g n cap f t A x tv W) (hb : But c W W') (h1 : ab ≠ c) (h2 : zb ≠ c) (h3 : k ≠ c) : PutF ab zb k K g n cap f t A x tv W' := ⟨hb.cell h.a h1, hb.cell h.c0 h2, hb.cell h.c1 h2, hb.cell h.c2 h2, hb.cell h.c3 h2, hb.cell h.e h3⟩

/-- What a put leaves: the zone with another list, its row the old one or a new one. -/
def PutOk (w w' : World) (base zb g k tn tk : Nat) (z : Zn) : Prop :=
  ∃ g' n' cap', Zo w' base zb g' n' cap' k tn tk z ∧ (g' = g ∨ w.heap.size ≤ g') ∧ Bu2 g zb w w'

set_option maxHeartbeats 8000000 in
theorem put_ok (w : World) (base zb g n cap k tn tk : Nat) (z : Zn) (a o : Int) (Z : Zo w base zb g n cap k tn tk z) (hM : ZMay z) (hA : blkIn z.f z.t a o) (hv : ¬ ovlP z.free a o) :
    Calls Tryd.prog 48 #[.pointer (some ⟨zb, 0, none⟩), .int .i64 a, .int .i64 o] w fun e w' => e = .returned (.int .i64 0) ∧ PutOk w w' base zb g k tn tk (backZ z a o) := by
  obtain ⟨⟨o0, o4⟩, a1, a2, a3⟩ := id hA
  obtain ⟨n1, n2, n3, n4, n5⟩ := hM.new
  have hzl := Z.box.lt
  have hgl := Z.glt
  have hkl := Z.klt
  have hp1 := pw_pos o
  have hp2 := pw_le (o := o) ⟨o0, o4⟩
  have hw1 := wrap_pw o ⟨o0, o4⟩
  obtain ⟨P, hP⟩ : ∃ P, pw o = P := ⟨_, rfl⟩
  have HP : Hid (pw o = P) := hP
  rw [hP] at hw1 hp1 hp2
  have hw2 : IntKind.i64.wrap (a + P) = a + P := IntWalk.i64_in _ (by omega)
  have s0 : (w.alloc (.cells #[.int .i64 a] 3)).cell? ⟨w.heap.size, 0, none⟩ = some (.int .i64 a) := by simp
  have hb1 : Below w.heap.size w (((w.alloc (.cells #[.int .i64 a] 3)).alloc (.cells #[.int .i64 (a + P)] 3)).drew) := (((Below.refl _ _).alloc (Nat.le_refl _) _).alloc (by simp) _).drew
  have p1 : (((w.alloc (.cells #[.int .i64 a] 3)).alloc (.cells #[.int .i64 (a + P)] 3)).drew).cell? ⟨w.heap.size, 0, none⟩ = some (.int .i64 a) := by go_simp
  have p2 : (((w.alloc (.cells #[.int .i64 a] 3)).alloc (.cells #[.int .i64 (a + P)] 3)).drew).cell? ⟨w.heap.size + 1, 0, none⟩ = some (.int .i64 (a + P)) := by go_simp
  have p3 : (((w.alloc (.cells #[.int .i64 a] 3)).alloc (.cells #[.int .i64 (a + P)] 3)).drew).frozen? ⟨w.heap.size, 0, none⟩ = false := by go_simp
  have p4 : (((w.alloc (.cells #[.int .i64 a] 3)).alloc (.cells #[.int .i64 (a + P)] 3)).drew).heap.size = w.heap.size + 2 := by simp
  obtain ⟨W1, hW1⟩ : ∃ W1, ((w.alloc (.cells #[.int .i64 a] 3)).alloc (.cells #[.int .i64 (a + P)] 3)).drew = W1 := ⟨_, rfl⟩
  have HW1 : Hid _ := hW1
  rw [hW1] at hb1 p1 p2 p3 p4
  have Z1 := Z.below hb1
  have y2 := Z1.box.c2
  have hlen := bowns_len Z1.own
  have hl256 := may_len hM
  have hHold : HoldsB 53 #[.pointer (some ⟨w.heap.size + 1, 0, none⟩), .pointer (some ⟨w.heap.size, 0, none⟩)] z.free (ovl1 (a + P) a) W1 := fun i hi W hb => by
    have hB := (freeOk_at hM.free hi rfl).1
    exact putF1_any W _ _ (a + P) a _ _ _ (keep p2 hb) (keep p1 hb) hB.1 (by have := hB.2.1; omega) (by have := hB.2.2.1; omega)
  have HCt := bContains_any W1 53 #[.pointer (some ⟨w.heap.size + 1, 0, none⟩), .pointer (some ⟨w.heap.size, 0, none⟩)] (some ⟨g, 0, none⟩) n cap z.free (ovl1 (a + P) a) (blks_own Z1.own (by omega)) putF1_call hHold
  clear hP hW1 hHold
  go_enter Tryd.func48, Tryd.ntmps48
  go_wp2_with fail
  go_region_held3 (fun wx => wx.cell? ⟨w.heap.size, 0, none⟩ = some (.int .i64 a)) (first | assumption | go_keep) (fail)
  rw [HW1.out]
  go_wp2_with fail
  go_at_call 52
  refine HCt.mono ?_
  rintro e W2 ⟨rfl, hb2⟩
  have hany : z.free.any (ovl1 (a + P) a) = false := by
    cases hh : z.free.any (ovl1 (a + P) a) with
    | false => rfl
    | true => rw [← HP.out] at hh; exact absurd ((ovl_any z.free a o).1 hh) hv
  rw [hany]
  have Z2 := Z1.below hb2
  have hB2 := hb1.trans (hb2.mono hb1.size)
  have r1 := keep p1 hb2
  have r3 : W2.frozen? ⟨w.heap.size, 0, none⟩ = false := (hb2.frozen (p := ⟨w.heap.size, 0, none⟩) (World.block_lt_of_cell? W1 _ p1)).trans p3
  obtain ⟨R, hR⟩ : ∃ R, backGo (4 - o).toNat z.free a o = R := ⟨_, rfl⟩
  have HJ := join_any W2 base zb g n cap z.f z.t (.slice (some ⟨k, 0, none⟩) tn tk) z.free a o hM.new Z2.box Z2.own Z2.gz (by omega) (inc_of_free hM.free) (may_blk hM) hA R hR
  have HR : Hid (backZ z a o = ⟨z.f, z.t, addB R.1 ⟨R.2.1, R.2.2, z.types.getD ((R.2.1 - z.f) / 8).toNat 0⟩, z.types⟩) := by show _ = _; unfold backZ; rw [hR]
  have hs2 := hb2.size
  clear hany HCt Z Z1 HW1 hv hA hR p1 p2 p3 y2 hb1 s0
  go_wp2_with fail
  go_at_call 54
  refine HJ.mono ?_
  rintro e W3 ⟨⟨n', rfl, hn', B3, own3, hbu3⟩, hA3⟩
  obtain ⟨L, A, O⟩ := R
  dsimp only at own3 hA3 HR ⊢
  have gab1 : w.heap.size ≠ zb := by omega
  have gab2 : w.heap.size ≠ g := by omega
  have gab3 : w.heap.size ≠ k := by omega
  have t1 := hbu3.cell r1 gab2 gab1
  have t3 : W3.frozen? ⟨w.heap.size, 0, none⟩ = false := (World.frozen?_of_block (a := ⟨w.heap.size, 0, none⟩) (hbu3.block w.heap.size (World.block_lt_of_cell? W2 _ r1) gab2 gab1)).trans r3
  have typ3 := hbu3.owns Z2.typ (Ne.symm Z2.gk) Z2.kz
  have hbt4 : But w.heap.size W3 (W3.setCell ⟨w.heap.size, 0, none⟩ (.int .i64 A)) := (But.refl _ _).setCell _
  have B4 := B3.but hbt4 (Ne.symm gab1)
  have own4 := own_but own3 hbt4 (Ne.symm gab2)
  have typ4 := own_but typ3 hbt4 (Ne.symm gab3)
  have at4 : (W3.setCell ⟨w.heap.size, 0, none⟩ (.int .i64 A)).cell? ⟨w.heap.size, 0, none⟩ = some (.int .i64 A) := World.cell?_setCell_same _ _ _ t1
  have hU4 : Bu2 g zb w (W3.setCell ⟨w.heap.size, 0, none⟩ (.int .i64 A)) := by
    have h3 : Bu2 g zb w W3 := (Bu2.of_below hB2).trans hbu3
    exact ⟨hbt4.os.trans h3.os, hbt4.tape.trans h3.tape, hbt4.output.trans h3.output, Nat.le_trans h3.size hbt4.size, fun j hj h1 h2 => (hbt4.block j (Nat.lt_of_lt_of_le hj h3.size) (by omega)).trans (h3.block j hj h1 h2)⟩
  obtain ⟨W4, hW4⟩ : ∃ W4, W3.setCell ⟨w.heap.size, 0, none⟩ (.int .i64 A) = W4 := ⟨_, rfl⟩
  rw [hW4] at B4 own4 typ4 at4 hU4
  have HW4 : Hid _ := hW4
  have y2 := B4.c2
  have hlL := bowns_len own4
  have hHold : HoldsB 55 #[.pointer (some ⟨w.heap.size, 0, none⟩)] L (fun b => decide (A < b.a)) W4 := fun i hi W hb => putF2_any W _ A _ _ _ (keep at4 hb)
  have HIx := bIndex_any W4 55 #[.pointer (some ⟨w.heap.size, 0, none⟩)] (some ⟨g, 0, none⟩) n' cap L (fun b => decide (A < b.a)) (blks_own own4 (by omega)) putF2_call hHold
  obtain ⟨⟨oo0, oo4⟩, a4, a5, a6⟩ := hA3
  have hlenT := hM.len
  have htl := owns_len typ4
  obtain ⟨K, hK⟩ : ∃ K : Nat, (A - z.f) / 8 = (K : Int) := ⟨((A - z.f) / 8).toNat, by omega⟩
  obtain ⟨x, hx⟩ : ∃ x, z.types.getD K 0 = x := ⟨_, rfl⟩
  clear hHold hW4 HJ B3 own3 typ3 hbt4 hbu3 r1 r3
  go_wp2_with (rw [HW4.out])
  go_at_call 38
  refine HIx.mono ?_
  rintro e W5 ⟨hf, hb5⟩
  have B5 := B4.below hb5
  have own5 := owns_below own4 hb5 (Nat.le_refl _)
  have typ5 := owns_below typ4 hb5 (Nat.le_refl _)
  have at5 := keep at4 hb5
  have hU5 := hU4.trans (.of_below hb5)
  have hs5 : w.heap.size ≤ W5.heap.size := hU5.size
  clear HIx B4 own4 typ4 at4 hU4 hb5 y2 t1 t3 HW4
  rcases hf with ⟨I, hI, rfl, hi1, hi2⟩ | ⟨rfl, hi1⟩
  · have hI1 : ∀ j, j < I → ¬ (⟨A, O, x⟩ : Bk).a < (L.getD j .zero).a := fun j hj => of_decide_eq_false (hi2 j hj)
    have hI2 : I < L.length → (⟨A, O, x⟩ : Bk).a < (L.getD I .zero).a := fun _ => of_decide_eq_true hi1
    clear hi1 hi2
    have hKn : K < tn := by omega
    have hKi : (K : Int) < (tn : Int) := by omega
    have c0 := B5.c0
    have c1 := B5.c1
    have c2 := B5.c2
    have c3 := B5.c3
    have z2 := B5.z2
    have hcx : W5.cell? ⟨k, K, none⟩ = some (.int .i64 x) := by
      have h := typ5.cellAt K (by omega)
      rw [vals_get, List.getElem?_eq_getElem (by omega)] at h
      rw [h, ← hx, List.getD_eq_getElem?_getD, List.getElem?_eq_getElem (by omega)]
      rfl
    have S0 : PutF w.heap.size zb k K g n' cap z.f z.t A x (.slice (some ⟨k, 0, none⟩) tn tk) W5 := ⟨at5, c0, c1, c2, c3, hcx⟩
    have S1 : PutF w.heap.size zb k K g n' cap z.f z.t A x (.slice (some ⟨k, 0, none⟩) tn tk) { W5 with drawn := W5.drawn + 1 } := S0.below (Below.refl _ _).drew
    have m1 : ∀ wx, PutF w.heap.size zb k K g n' cap z.f z.t A x (.slice (some ⟨k, 0, none⟩) tn tk) wx → wx.cell? ⟨w.heap.size, 0, none⟩ = some (.int .i64 A) := fun wx h => h.a
    have m2 : ∀ wx, PutF w.heap.size zb k K g n' cap z.f z.t A x (.slice (some ⟨k, 0, none⟩) tn tk) wx → wx.cell? ⟨zb, 0, none⟩ = some (.int .i64 z.f) := fun wx h => h.c0
    have m3 : ∀ wx, PutF w.heap.size zb k K g n' cap z.f z.t A x (.slice (some ⟨k, 0, none⟩) tn tk) wx → wx.cell? ⟨zb, 1, none⟩ = some (.int .i64 z.t) := fun wx h => h.c1
    have m4 : ∀ wx, PutF w.heap.size zb k K g n' cap z.f z.t A x (.slice (some ⟨k, 0, none⟩) tn tk) wx → wx.cell? ⟨zb, 2, none⟩ = some (.slice (some ⟨g, 0, none⟩) n' cap) := fun wx h => h.c2
    have m5 : ∀ wx, PutF w.heap.size zb k K g n' cap z.f z.t A x (.slice (some ⟨k, 0, none⟩) tn tk) wx → wx.cell? ⟨zb, 3, none⟩ = some (.slice (some ⟨k, 0, none⟩) tn tk) := fun wx h => h.c3
    have m6 : ∀ wx, PutF w.heap.size zb k K g n' cap z.f z.t A x (.slice (some ⟨k, 0, none⟩) tn tk) wx → wx.cell? ⟨k, K, none⟩ = some (.int .i64 x) := fun wx h => h.e
    have HG : Hid (∀ V, Below W5.heap.size W5 V → Calls Tryd.prog 40 #[.agg #[.int .i64 z.f, .int .i64 z.t, .slice (some ⟨g, 0, none⟩) n' cap, .slice (some ⟨k, 0, none⟩) tn tk], .int .i64 A] V fun e w' => e = .returned (.int .i64 K) ∧ Below W5.heap.size W5 w') := fun V hV => by
      rw [← hK]
      refine (group_any V z.f z.t _ _ n' cap tn tk A n1 a4 (by omega)).mono ?_
      rintro e w' ⟨rfl, hb⟩
      exact ⟨rfl, hV.trans (hb.mono hV.size)⟩
    have HI : Hid (∀ w6, Below W5.heap.size W5 w6 → Calls Tryd.prog 42 #[.slice (some ⟨g, 0, none⟩) n' cap, .int .i64 (I : Int), .slice (some ⟨w6.heap.size, 0, none⟩) 1 1] (w6.alloc (.cells #[.int .i64 A, .int .i64 O, .int .i64 x] 42)) fun e w7 => RetRow (w6.alloc (.cells #[.int .i64 A, .int .i64 O, .int .i64 x] 42)) w7 base g (n' + 1) (insB L I ⟨A, O, x⟩) e) := fun w6 hb6 => by
      refine bIns_any _ base g n' cap I w6.heap.size L ⟨A, O, x⟩ (by omega) (by omega) (owns_below (owns_below own5 hb6 (Nat.le_refl _)) (below_box _ _) (Nat.le_refl _)) (heap_alloc_new _ _) (by have := hb6.size; omega)
    have HADD : Hid (backZ z a o = ⟨z.f, z.t, insB L I ⟨A, O, x⟩, z.types⟩) := by
      show _ = _
      rw [HR.out, hK, show ((K : Int)).toNat = K from rfl, hx, addB_at (by omega) hI1 hI2]
    clear hI1 hI2 HR hK hx
    have hBd := (Below.refl W5.heap.size W5).drew
    go_wp2_with fail
    refine wp_region_peel (S := fun wx => PutF w.heap.size zb k K g n' cap z.f z.t A x (.slice (some ⟨k, 0, none⟩) tn tk) wx) 24 _ (by kernel_rfl) (by kernel_rfl) rfl ?_
    simp only [List.take_succ_cons, List.take_zero]
    refine takeH 0 (v := .pointer (some ⟨zb, 0, none⟩)) rfl (by kernel_rfl) (by kernel_rfl) (by kernel_rfl) (fun _ _ _ h => h) rfl (fun wx hSx => ?_) S1 ?_
    · go_simp
    try simp only [Act.put, List.setIfInBounds_toArray, List.set_cons_zero, List.set_cons_succ]
    refine takeH 1 (v := .pointer (some ⟨zb, 0, none⟩)) rfl (by kernel_rfl) (by kernel_rfl) (by kernel_rfl) (fun _ _ _ h => h) rfl (fun wx hSx => ?_) S1 ?_
    · go_simp
    try simp only [Act.put, List.setIfInBounds_toArray, List.set_cons_zero, List.set_cons_succ]
    refine takeH 2 (v := .pointer (some ⟨zb, 0, none⟩)) rfl (by kernel_rfl) (by kernel_rfl) (by kernel_rfl) (fun _ _ _ h => h) rfl (fun wx hSx => ?_) S1 ?_
    · go_simp
    try simp only [Act.put, List.setIfInBounds_toArray, List.set_cons_zero, List.set_cons_succ]
    refine takeH 3 (v := .pointer (some ⟨zb, 2, none⟩)) rfl (by kernel_rfl) (by kernel_rfl) (by kernel_rfl) (fun _ _ _ h => h) rfl (fun wx hSx => ?_) S1 ?_
    · go_simp
    try simp only [Act.put, List.setIfInBounds_toArray, List.set_cons_zero, List.set_cons_succ]
    refine takeH 4 (v := .slice (some ⟨g, 0, none⟩) n' cap) rfl (by kernel_rfl) (by kernel_rfl) (by kernel_rfl) (fun _ _ _ h => h) rfl (fun wx hSx => ?_) S1 ?_
    · go_simp
    try simp only [Act.put, List.setIfInBounds_toArray, List.set_cons_zero, List.set_cons_succ]
    refine takeH 5 (v := .int .i64 (I : Int)) rfl (by kernel_rfl) (by kernel_rfl) (by kernel_rfl) (fun _ _ _ h => h) rfl (fun wx hSx => ?_) S1 ?_
    · go_simp
    try simp only [Act.put, List.setIfInBounds_toArray, List.set_cons_zero, List.set_cons_succ]
    refine takeH 6 (v := .int .i64 A) rfl (by kernel_rfl) (by kernel_rfl) (by kernel_rfl) (fun _ _ _ h => h) rfl (fun wx hSx => ?_) S1 ?_
    · go_simp
    try simp only [Act.put, List.setIfInBounds_toArray, List.set_cons_zero, List.set_cons_succ]
    refine takeH 7 (v := .int .i64 O) rfl (by kernel_rfl) (by kernel_rfl) (by kernel_rfl) (fun _ _ _ h => h) rfl (fun wx hSx => ?_) S1 ?_
    · go_simp
    try simp only [Act.put, List.setIfInBounds_toArray, List.set_cons_zero, List.set_cons_succ]
    refine takeH 8 (v := .pointer (some ⟨zb, 0, none⟩)) rfl (by kernel_rfl) (by kernel_rfl) (by kernel_rfl) (fun _ _ _ h => h) rfl (fun wx hSx => ?_) S1 ?_
    · go_simp
    try simp only [Act.put, List.setIfInBounds_toArray, List.set_cons_zero, List.set_cons_succ]
    refine takeH 9 (v := .pointer (some ⟨zb, 0, none⟩)) rfl (by kernel_rfl) (by kernel_rfl) (by kernel_rfl) (fun _ _ _ h => h) rfl (fun wx hSx => ?_) S1 ?_
    · go_simp
    try simp only [Act.put, List.setIfInBounds_toArray, List.set_cons_zero, List.set_cons_succ]
    refine takeH 10 (v := .pointer (some ⟨zb, 3, none⟩)) rfl (by kernel_rfl) (by kernel_rfl) (by kernel_rfl) (fun _ _ _ h => h) rfl (fun wx hSx => ?_) S1 ?_
    · go_simp
    try simp only [Act.put, List.setIfInBounds_toArray, List.set_cons_zero, List.set_cons_succ]
    refine takeH 11 (v := .slice (some ⟨k, 0, none⟩) tn tk) rfl (by kernel_rfl) (by kernel_rfl) (by kernel_rfl) (fun _ _ _ h => h) rfl (fun wx hSx => ?_) S1 ?_
    · go_simp
    try simp only [Act.put, List.setIfInBounds_toArray, List.set_cons_zero, List.set_cons_succ]
    refine takeH 12 (v := .pointer (some ⟨zb, 0, none⟩)) rfl (by kernel_rfl) (by kernel_rfl) (by kernel_rfl) (fun _ _ _ h => h) rfl (fun wx hSx => ?_) S1 ?_
    · go_simp
    try simp only [Act.put, List.setIfInBounds_toArray, List.set_cons_zero, List.set_cons_succ]
    refine takeH 13 (v := .pointer (some ⟨zb, 0, none⟩)) rfl (by kernel_rfl) (by kernel_rfl) (by kernel_rfl) (fun _ _ _ h => h) rfl (fun wx hSx => ?_) S1 ?_
    · go_simp
    try simp only [Act.put, List.setIfInBounds_toArray, List.set_cons_zero, List.set_cons_succ]
    refine takeH 14 (v := .agg #[.int .i64 z.f, .int .i64 z.t, .slice (some ⟨g, 0, none⟩) n' cap, .slice (some ⟨k, 0, none⟩) tn tk]) rfl (by kernel_rfl) (by kernel_rfl) (by kernel_rfl) (fun _ _ _ h => h) rfl (fun wx hSx => ?_) S1 ?_
    · go_simp
    try simp only [Act.put, List.setIfInBounds_toArray, List.set_cons_zero, List.set_cons_succ]
    refine takeH 15 (v := .int .i64 A) rfl (by kernel_rfl) (by kernel_rfl) (by kernel_rfl) (fun _ _ _ h => h) rfl (fun wx hSx => ?_) S1 ?_
    · go_simp
    try simp only [Act.put, List.setIfInBounds_toArray, List.set_cons_zero, List.set_cons_succ]
    refine oneH 16 (by kernel_rfl) rfl rfl (fun K1 hK1 => ?_)
    go_simp
    refine (HG.out _ hBd).mono ?_
    rintro e w6 ⟨rfl, hb6⟩
    have hS6 := S0.below hb6
    refine hK1 _ _ hS6 ?_
    try simp only [Act.put, List.setIfInBounds_toArray, List.set_cons_zero, List.set_cons_succ]
    refine takeH 17 (v := .pointer (some ⟨k, K, none⟩)) rfl (by kernel_rfl) (by kernel_rfl) (by kernel_rfl) (fun _ _ _ h => h) rfl (fun wx hSx => ?_) hS6 ?_
    · go_simp
    try simp only [Act.put, List.setIfInBounds_toArray, List.set_cons_zero, List.set_cons_succ]
    refine takeH 18 (v := .int .i64 x) rfl (by kernel_rfl) (by kernel_rfl) (by kernel_rfl) (fun _ _ _ h => h) rfl (fun wx hSx => ?_) hS6 ?_
    · go_simp
    try simp only [Act.put, List.setIfInBounds_toArray, List.set_cons_zero, List.set_cons_succ]
    refine takeH 19 (v := .agg #[.int .i64 A, .int .i64 O, .int .i64 x]) rfl (by kernel_rfl) (by kernel_rfl) (by kernel_rfl) (fun _ _ _ h => h) rfl (fun wx hSx => ?_) hS6 ?_
    · go_simp
    try simp only [Act.put, List.setIfInBounds_toArray, List.set_cons_zero, List.set_cons_succ]
    refine oneH 20 (by kernel_rfl) rfl rfl (fun K2 hK2 => ?_)
    go_simp
    have hS6' := hS6.below (below_box w6 (.cells #[.int .i64 A, .int .i64 O, .int .i64 x] 42))
    refine hK2 _ _ hS6' ?_
    try simp only [Act.put, List.setIfInBounds_toArray, List.set_cons_zero, List.set_cons_succ]
    refine oneH 21 (by kernel_rfl) rfl rfl (fun K3 hK3 => ?_)
    go_simp
    refine (HI.out _ hb6).mono ?_
    rintro e w7 ⟨g', cap', rfl, ow7, hb7, hg7⟩
    have B7 := ((B5.below hb6).below (below_box w6 (.cells #[.int .i64 A, .int .i64 O, .int .i64 x] 42))).but hb7 (Ne.symm Z2.gz)
    have f2 := B7.c2
    have f2z := B7.z2
    have hS7 := hS6'.but hb7 gab2 (Ne.symm Z2.gz) (Ne.symm Z2.gk)
    refine hK3 _ _ hS7 ?_
    try simp only [Act.put, List.setIfInBounds_toArray, List.set_cons_zero, List.set_cons_succ]
    refine takeH 22 (v := .pointer (some ⟨zb, 0, none⟩)) rfl (by kernel_rfl) (by kernel_rfl) (by kernel_rfl) (fun _ _ _ h => h) rfl (fun wx hSx => ?_) hS7 ?_
    · go_simp
    try simp only [Act.put, List.setIfInBounds_toArray, List.set_cons_zero, List.set_cons_succ]
    refine takeH 23 (v := .pointer (some ⟨zb, 2, none⟩)) rfl (by kernel_rfl) (by kernel_rfl) (by kernel_rfl) (fun _ _ _ h => h) rfl (fun wx hSx => ?_) hS7 ?_
    · go_simp
    try simp only [Act.put, List.setIfInBounds_toArray, List.set_cons_zero, List.set_cons_succ]
    refine wpAnyH_done (by kernel_rfl) ?_ _
    show Oper.wp _ _ _ _ _ _
    all_goals
      have typ7 := own_but (owns_below (owns_below typ5 hb6 (Nat.le_refl _)) (below_box w6 (.cells #[.int .i64 A, .int .i64 O, .int .i64 x] 42)) (Nat.le_refl _)) hb7 (Ne.symm Z2.gk)
      have hs6 := hb6.size
      have hs7 : w6.heap.size + 1 ≤ w7.heap.size := by have := hb7.size; simpa using this
      have hg7' : g' = g ∨ w6.heap.size + 1 ≤ g' := by simpa using hg7
      have hbt : But zb w7 (w7.setCell ⟨zb, 2, none⟩ (.slice (some ⟨g', 0, none⟩) (n' + 1) cap')) := (But.refl _ _).setCell _
      have hgz' : g' ≠ zb := by rcases hg7' with h | h; rw [h]; exact Z2.gz; omega
      have hgk' : g' ≠ k := by rcases hg7' with h | h; rw [h]; exact Z2.gk; omega
      have ZF : Zo (w7.setCell ⟨zb, 2, none⟩ (.slice (some ⟨g', 0, none⟩) (n' + 1) cap')) base zb g' (n' + 1) cap' k tn tk ⟨z.f, z.t, insB L I ⟨A, O, x⟩, z.types⟩ := ⟨B7.set2 _, own_but ow7 hbt hgz', own_but typ7 hbt Z2.kz, hgz', Z2.kz, hgk'⟩
      have hU : Bu2 g zb w (w7.setCell ⟨zb, 2, none⟩ (.slice (some ⟨g', 0, none⟩) (n' + 1) cap')) := (((hU5.trans (.of_below hb6)).trans (.of_below (below_box w6 (.cells #[.int .i64 A, .int .i64 O, .int .i64 x] 42)))).trans (.of_but_g hb7)).trans (.of_but_z hbt)
      have hgF : g' = g ∨ w.heap.size ≤ g' := by rcases hg7' with h | h; exact .inl h; exact .inr (by omega)
      clear hS6 hS6' hS7 HG HI m1 m2 m3 m4 m5 m6 S0 S1 B5 own5 typ5 c0 c1 c2 c3
      go_wp2
      go_ret
      rw [HADD.out]
      exact ⟨rfl, g', n' + 1, cap', ZF, hgF, hU⟩
  · have hI1 : ∀ j, j < n' → ¬ (⟨A, O, x⟩ : Bk).a < (L.getD j .zero).a := fun j hj => of_decide_eq_false (hi1 j (by omega))
    have hI2 : n' < L.length → (⟨A, O, x⟩ : Bk).a < (L.getD n' .zero).a := fun h => by omega
    clear hi1
    have hKn : K < tn := by omega
    have hKi : (K : Int) < (tn : Int) := by omega
    have c0 := B5.c0
    have c1 := B5.c1
    have c2 := B5.c2
    have c3 := B5.c3
    have z2 := B5.z2
    have hcx : W5.cell? ⟨k, K, none⟩ = some (.int .i64 x) := by
      have h := typ5.cellAt K (by omega)
      rw [vals_get, List.getElem?_eq_getElem (by omega)] at h
      rw [h, ← hx, List.getD_eq_getElem?_getD, List.getElem?_eq_getElem (by omega)]
      rfl
    have S0 : PutF w.heap.size zb k K g n' cap z.f z.t A x (.slice (some ⟨k, 0, none⟩) tn tk) W5 := ⟨at5, c0, c1, c2, c3, hcx⟩
    have S1 : PutF w.heap.size zb k K g n' cap z.f z.t A x (.slice (some ⟨k, 0, none⟩) tn tk) { W5 with drawn := W5.drawn + 1 } := S0.below (Below.refl _ _).drew
    have m1 : ∀ wx, PutF w.heap.size zb k K g n' cap z.f z.t A x (.slice (some ⟨k, 0, none⟩) tn tk) wx → wx.cell? ⟨w.heap.size, 0, none⟩ = some (.int .i64 A) := fun wx h => h.a
    have m2 : ∀ wx, PutF w.heap.size zb k K g n' cap z.f z.t A x (.slice (some ⟨k, 0, none⟩) tn tk) wx → wx.cell? ⟨zb, 0, none⟩ = some (.int .i64 z.f) := fun wx h => h.c0
    have m3 : ∀ wx, PutF w.heap.size zb k K g n' cap z.f z.t A x (.slice (some ⟨k, 0, none⟩) tn tk) wx → wx.cell? ⟨zb, 1, none⟩ = some (.int .i64 z.t) := fun wx h => h.c1
    have m4 : ∀ wx, PutF w.heap.size zb k K g n' cap z.f z.t A x (.slice (some ⟨k, 0, none⟩) tn tk) wx → wx.cell? ⟨zb, 2, none⟩ = some (.slice (some ⟨g, 0, none⟩) n' cap) := fun wx h => h.c2
    have m5 : ∀ wx, PutF w.heap.size zb k K g n' cap z.f z.t A x (.slice (some ⟨k, 0, none⟩) tn tk) wx → wx.cell? ⟨zb, 3, none⟩ = some (.slice (some ⟨k, 0, none⟩) tn tk) := fun wx h => h.c3
    have m6 : ∀ wx, PutF w.heap.size zb k K g n' cap z.f z.t A x (.slice (some ⟨k, 0, none⟩) tn tk) wx → wx.cell? ⟨k, K, none⟩ = some (.int .i64 x) := fun wx h => h.e
    have HG : Hid (∀ V, Below W5.heap.size W5 V → Calls Tryd.prog 40 #[.agg #[.int .i64 z.f, .int .i64 z.t, .slice (some ⟨g, 0, none⟩) n' cap, .slice (some ⟨k, 0, none⟩) tn tk], .int .i64 A] V fun e w' => e = .returned (.int .i64 K) ∧ Below W5.heap.size W5 w') := fun V hV => by
      rw [← hK]
      refine (group_any V z.f z.t _ _ n' cap tn tk A n1 a4 (by omega)).mono ?_
      rintro e w' ⟨rfl, hb⟩
      exact ⟨rfl, hV.trans (hb.mono hV.size)⟩
    have HI : Hid (∀ w6, Below W5.heap.size W5 w6 → Calls Tryd.prog 42 #[.slice (some ⟨g, 0, none⟩) n' cap, .int .i64 (n' : Int), .slice (some ⟨w6.heap.size, 0, none⟩) 1 1] (w6.alloc (.cells #[.int .i64 A, .int .i64 O, .int .i64 x] 42)) fun e w7 => RetRow (w6.alloc (.cells #[.int .i64 A, .int .i64 O, .int .i64 x] 42)) w7 base g (n' + 1) (insB L n' ⟨A, O, x⟩) e) := fun w6 hb6 => by
      refine bIns_any _ base g n' cap n' w6.heap.size L ⟨A, O, x⟩ (by omega) (by omega) (owns_below (owns_below own5 hb6 (Nat.le_refl _)) (below_box _ _) (Nat.le_refl _)) (heap_alloc_new _ _) (by have := hb6.size; omega)
    have HADD : Hid (backZ z a o = ⟨z.f, z.t, insB L n' ⟨A, O, x⟩, z.types⟩) := by
      show _ = _
      rw [HR.out, hK, show ((K : Int)).toNat = K from rfl, hx, addB_at (by omega) hI1 hI2]
    clear hI1 hI2 HR hK hx
    have hBd := (Below.refl W5.heap.size W5).drew
    go_wp2_with fail
    refine wp_region_peel (S := fun wx => PutF w.heap.size zb k K g n' cap z.f z.t A x (.slice (some ⟨k, 0, none⟩) tn tk) wx) 24 _ (by kernel_rfl) (by kernel_rfl) rfl ?_
    simp only [List.take_succ_cons, List.take_zero]
    refine takeH 0 (v := .pointer (some ⟨zb, 0, none⟩)) rfl (by kernel_rfl) (by kernel_rfl) (by kernel_rfl) (fun _ _ _ h => h) rfl (fun wx hSx => ?_) S1 ?_
    · go_simp
    try simp only [Act.put, List.setIfInBounds_toArray, List.set_cons_zero, List.set_cons_succ]
    refine takeH 1 (v := .pointer (some ⟨zb, 0, none⟩)) rfl (by kernel_rfl) (by kernel_rfl) (by kernel_rfl) (fun _ _ _ h => h) rfl (fun wx hSx => ?_) S1 ?_
    · go_simp
    try simp only [Act.put, List.setIfInBounds_toArray, List.set_cons_zero, List.set_cons_succ]
    refine takeH 2 (v := .pointer (some ⟨zb, 0, none⟩)) rfl (by kernel_rfl) (by kernel_rfl) (by kernel_rfl) (fun _ _ _ h => h) rfl (fun wx hSx => ?_) S1 ?_
    · go_simp
    try simp only [Act.put, List.setIfInBounds_toArray, List.set_cons_zero, List.set_cons_succ]
    refine takeH 3 (v := .pointer (some ⟨zb, 2, none⟩)) rfl (by kernel_rfl) (by kernel_rfl) (by kernel_rfl) (fun _ _ _ h => h) rfl (fun wx hSx => ?_) S1 ?_
    · go_simp
    try simp only [Act.put, List.setIfInBounds_toArray, List.set_cons_zero, List.set_cons_succ]
    refine takeH 4 (v := .slice (some ⟨g, 0, none⟩) n' cap) rfl (by kernel_rfl) (by kernel_rfl) (by kernel_rfl) (fun _ _ _ h => h) rfl (fun wx hSx => ?_) S1 ?_
    · go_simp
    try simp only [Act.put, List.setIfInBounds_toArray, List.set_cons_zero, List.set_cons_succ]
    refine takeH 5 (v := .int .i64 (n' : Int)) rfl (by kernel_rfl) (by kernel_rfl) (by kernel_rfl) (fun _ _ _ h => h) rfl (fun wx hSx => ?_) S1 ?_
    · go_simp
    try simp only [Act.put, List.setIfInBounds_toArray, List.set_cons_zero, List.set_cons_succ]
    refine takeH 6 (v := .int .i64 A) rfl (by kernel_rfl) (by kernel_rfl) (by kernel_rfl) (fun _ _ _ h => h) rfl (fun wx hSx => ?_) S1 ?_
    · go_simp
    try simp only [Act.put, List.setIfInBounds_toArray, List.set_cons_zero, List.set_cons_succ]
    refine takeH 7 (v := .int .i64 O) rfl (by kernel_rfl) (by kernel_rfl) (by kernel_rfl) (fun _ _ _ h => h) rfl (fun wx hSx => ?_) S1 ?_
    · go_simp
    try simp only [Act.put, List.setIfInBounds_toArray, List.set_cons_zero, List.set_cons_succ]
    refine takeH 8 (v := .pointer (some ⟨zb, 0, none⟩)) rfl (by kernel_rfl) (by kernel_rfl) (by kernel_rfl) (fun _ _ _ h => h) rfl (fun wx hSx => ?_) S1 ?_
    · go_simp
    try simp only [Act.put, List.setIfInBounds_toArray, List.set_cons_zero, List.set_cons_succ]
    refine takeH 9 (v := .pointer (some ⟨zb, 0, none⟩)) rfl (by kernel_rfl) (by kernel_rfl) (by kernel_rfl) (fun _ _ _ h => h) rfl (fun wx hSx => ?_) S1 ?_
    · go_simp
    try simp only [Act.put, List.setIfInBounds_toArray, List.set_cons_zero, List.set_cons_succ]
    refine takeH 10 (v := .pointer (some ⟨zb, 3, none⟩)) rfl (by kernel_rfl) (by kernel_rfl) (by kernel_rfl) (fun _ _ _ h => h) rfl (fun wx hSx => ?_) S1 ?_
    · go_simp
    try simp only [Act.put, List.setIfInBounds_toArray, List.set_cons_zero, List.set_cons_succ]
    refine takeH 11 (v := .slice (some ⟨k, 0, none⟩) tn tk) rfl (by kernel_rfl) (by kernel_rfl) (by kernel_rfl) (fun _ _ _ h => h) rfl (fun wx hSx => ?_) S1 ?_
    · go_simp
    try simp only [Act.put, List.setIfInBounds_toArray, List.set_cons_zero, List.set_cons_succ]
    refine takeH 12 (v := .pointer (some ⟨zb, 0, none⟩)) rfl (by kernel_rfl) (by kernel_rfl) (by kernel_rfl) (fun _ _ _ h => h) rfl (fun wx hSx => ?_) S1 ?_
    · go_simp
    try simp only [Act.put, List.setIfInBounds_toArray, List.set_cons_zero, List.set_cons_succ]
    refine takeH 13 (v := .pointer (some ⟨zb, 0, none⟩)) rfl (by kernel_rfl) (by kernel_rfl) (by kernel_rfl) (fun _ _ _ h => h) rfl (fun wx hSx => ?_) S1 ?_
    · go_simp
    try simp only [Act.put, List.setIfInBounds_toArray, List.set_cons_zero, List.set_cons_succ]
    refine takeH 14 (v := .agg #[.int .i64 z.f, .int .i64 z.t, .slice (some ⟨g, 0, none⟩) n' cap, .slice (some ⟨k, 0, none⟩) tn tk]) rfl (by kernel_rfl) (by kernel_rfl) (by kernel_rfl) (fun _ _ _ h => h) rfl (fun wx hSx => ?_) S1 ?_
    · go_simp
    try simp only [Act.put, List.setIfInBounds_toArray, List.set_cons_zero, List.set_cons_succ]
    refine takeH 15 (v := .int .i64 A) rfl (by kernel_rfl) (by kernel_rfl) (by kernel_rfl) (fun _ _ _ h => h) rfl (fun wx hSx => ?_) S1 ?_
    · go_simp
    try simp only [Act.put, List.setIfInBounds_toArray, List.set_cons_zero, List.set_cons_succ]
    refine oneH 16 (by kernel_rfl) rfl rfl (fun K1 hK1 => ?_)
    go_simp
    refine (HG.out _ hBd).mono ?_
    rintro e w6 ⟨rfl, hb6⟩
    have hS6 := S0.below hb6
    refine hK1 _ _ hS6 ?_
    try simp only [Act.put, List.setIfInBounds_toArray, List.set_cons_zero, List.set_cons_succ]
    refine takeH 17 (v := .pointer (some ⟨k, K, none⟩)) rfl (by kernel_rfl) (by kernel_rfl) (by kernel_rfl) (fun _ _ _ h => h) rfl (fun wx hSx => ?_) hS6 ?_
    · go_simp
    try simp only [Act.put, List.setIfInBounds_toArray, List.set_cons_zero, List.set_cons_succ]
    refine takeH 18 (v := .int .i64 x) rfl (by kernel_rfl) (by kernel_rfl) (by kernel_rfl) (fun _ _ _ h => h) rfl (fun wx hSx => ?_) hS6 ?_
    · go_simp
    try simp only [Act.put, List.setIfInBounds_toArray, List.set_cons_zero, List.set_cons_succ]
    refine takeH 19 (v := .agg #[.int .i64 A, .int .i64 O, .int .i64 x]) rfl (by kernel_rfl) (by kernel_rfl) (by kernel_rfl) (fun _ _ _ h => h) rfl (fun wx hSx => ?_) hS6 ?_
    · go_simp
    try simp only [Act.put, List.setIfInBounds_toArray, List.set_cons_zero, List.set_cons_succ]
    refine oneH 20 (by kernel_rfl) rfl rfl (fun K2 hK2 => ?_)
    go_simp
    have hS6' := hS6.below (below_box w6 (.cells #[.int .i64 A, .int .i64 O, .int .i64 x] 42))
    refine hK2 _ _ hS6' ?_
    try simp only [Act.put, List.setIfInBounds_toArray, List.set_cons_zero, List.set_cons_succ]
    refine oneH 21 (by kernel_rfl) rfl rfl (fun K3 hK3 => ?_)
    go_simp
    refine (HI.out _ hb6).mono ?_
    rintro e w7 ⟨g', cap', rfl, ow7, hb7, hg7⟩
    have B7 := ((B5.below hb6).below (below_box w6 (.cells #[.int .i64 A, .int .i64 O, .int .i64 x] 42))).but hb7 (Ne.symm Z2.gz)
    have f2 := B7.c2
    have f2z := B7.z2
    have hS7 := hS6'.but hb7 gab2 (Ne.symm Z2.gz) (Ne.symm Z2.gk)
    refine hK3 _ _ hS7 ?_
    try simp only [Act.put, List.setIfInBounds_toArray, List.set_cons_zero, List.set_cons_succ]
    refine takeH 22 (v := .pointer (some ⟨zb, 0, none⟩)) rfl (by kernel_rfl) (by kernel_rfl) (by kernel_rfl) (fun _ _ _ h => h) rfl (fun wx hSx => ?_) hS7 ?_
    · go_simp
    try simp only [Act.put, List.setIfInBounds_toArray, List.set_cons_zero, List.set_cons_succ]
    refine takeH 23 (v := .pointer (some ⟨zb, 2, none⟩)) rfl (by kernel_rfl) (by kernel_rfl) (by kernel_rfl) (fun _ _ _ h => h) rfl (fun wx hSx => ?_) hS7 ?_
    · go_simp
    try simp only [Act.put, List.setIfInBounds_toArray, List.set_cons_zero, List.set_cons_succ]
    refine wpAnyH_done (by kernel_rfl) ?_ _
    show Oper.wp _ _ _ _ _ _
    all_goals
      have typ7 := own_but (owns_below (owns_below typ5 hb6 (Nat.le_refl _)) (below_box w6 (.cells #[.int .i64 A, .int .i64 O, .int .i64 x] 42)) (Nat.le_refl _)) hb7 (Ne.symm Z2.gk)
      have hs6 := hb6.size
      have hs7 : w6.heap.size + 1 ≤ w7.heap.size := by have := hb7.size; simpa using this
      have hg7' : g' = g ∨ w6.heap.size + 1 ≤ g' := by simpa using hg7
      have hbt : But zb w7 (w7.setCell ⟨zb, 2, none⟩ (.slice (some ⟨g', 0, none⟩) (n' + 1) cap')) := (But.refl _ _).setCell _
      have hgz' : g' ≠ zb := by rcases hg7' with h | h; rw [h]; exact Z2.gz; omega
      have hgk' : g' ≠ k := by rcases hg7' with h | h; rw [h]; exact Z2.gk; omega
      have ZF : Zo (w7.setCell ⟨zb, 2, none⟩ (.slice (some ⟨g', 0, none⟩) (n' + 1) cap')) base zb g' (n' + 1) cap' k tn tk ⟨z.f, z.t, insB L n' ⟨A, O, x⟩, z.types⟩ := ⟨B7.set2 _, own_but ow7 hbt hgz', own_but typ7 hbt Z2.kz, hgz', Z2.kz, hgk'⟩
      have hU : Bu2 g zb w (w7.setCell ⟨zb, 2, none⟩ (.slice (some ⟨g', 0, none⟩) (n' + 1) cap')) := (((hU5.trans (.of_below hb6)).trans (.of_below (below_box w6 (.cells #[.int .i64 A, .int .i64 O, .int .i64 x] 42)))).trans (.of_but_g hb7)).trans (.of_but_z hbt)
      have hgF : g' = g ∨ w.heap.size ≤ g' := by rcases hg7' with h | h; exact .inl h; exact .inr (by omega)
      clear hS6 hS6' hS7 HG HI m1 m2 m3 m4 m5 m6 S0 S1 B5 own5 typ5 c0 c1 c2 c3
      go_wp2
      go_ret
      rw [HADD.out]
      exact ⟨rfl, g', n' + 1, cap', ZF, hgF, hU⟩

end Go.Proofs.YtpfafhgllabhbaaDoor

/-
  OWN TEXT. append to a row that the call owns (or nil), as one step of a region that draws its order; over whatever program.
-/
namespace Go.Proofs.YtpfafhgllabhbaaDoor.Kit
open Go Go.RowKit

theorem step_append_own {P : Program} {ops : Array Oper} {o : Oper} {a : Act} {w : World} {K : Act → World → Prop} {Q : Exit → Act → World → Prop} {E : Prop}
    (hg : o.guard = none) (s x : Operand) (t : TypeId) (hop : o.op = Op.call { callee := Callee.builtin Builtin.append, args := #[s, x], argTypes := #[t, t] })
    (e : TypeId) (i : TypeInfo) (z : Value) (size bytes : Nat) (h1 : P.underlying t = some (.slice e)) (h2 : P.info? e = some i) (h3 : i.zero = some z) (h4 : i.size = size) (h5 : i.bytes = bytes) (h6 : z.cells.size = size) (h7 : 0 < size)
    (base : Nat) (v : Value) (n : Nat) (xs : List Value) (hs : a.eval s = v) (hown : w.ownsRow base e size v n xs)
    (ad : Addr) (m c : Nat) (news : List Value) (hx : a.eval x = .slice (some ad) m c) (hn : news.length = m * size) (hc : ∀ j u, news[j]? = some u → w.cell? (ad.add j) = some u) (h1c : ∀ u ∈ news, u.oneCell' = true)
    (b1 : n + m ≤ maxLen) (b2 : (n + m) * bytes ≤ 140737488355328) (hbase : base ≤ w.heap.size)
    (hK : ∀ v' w', w'.ownsRow base e size v' (n + m) (xs ++ news) → w.grownBy w' v.ownBlock → K (a.put o.dst v') w') :
    if Region.wanted o (yielded ops a.tmps) = true then Oper.wp P o a w K Q else E := by
  have hw : Region.wanted o (yielded ops a.tmps) = true := by simp [Region.wanted, hg]
  rw [if_pos hw]
  obtain ⟨v', w', hrun, r1, r2, _⟩ := run_append_own (P := P) w base t o.type e i z size bytes h1 h2 h3 h4 h5 h6 h7 v n xs hown ad m c news hn hc h1c b1 b2 hbase
  unfold Oper.wp
  simp [execOp, hop, resolve, invoke, builtin, hs, hx, hrun, Result.andThen]
  exact hK v' w' r1 r2

end Go.Proofs.YtpfafhgllabhbaaDoor.Kit

/-
  OWN TEXT. Contract of the code: buddy.upperHalves.
-/
namespace Go.Proofs.YtpfafhgllabhbaaDoor
open Go Go.RowKit Go.Proofs.YtpfafhgllabhbaaDoor.Kit

set_option maxHeartbeats 4000000 in
theorem halves_any (w : World) (ba bo bt o : Int) (hb : ordOk bo) (h0 : 0 ≤ o) (h1 : o ≤ bo) (ha : 0 ≤ ba) (ha2 : ba ≤ 256) :
    Calls Tryd.prog 19 #[.agg #[.int .i64 ba, .int .i64 bo, .int .i64 bt], .int .i64 o] w fun e w' => ∃ v, e = .returned v ∧ w'.ownsRow w.heap.size 42 3 v (bo - o).toNat (bvals (halvesL ba bt o (bo - o).toNat)) ∧ Below w.heap.size w w' := by
  obtain ⟨i1, hj, hy0, hy1, hy2⟩ := info_parts info_block
  obtain ⟨b0, b4⟩ := hb
  have hb0 := below_box w (.cells #[.int .i64 ba, .int .i64 bo, .int .i64 bt] 42)
  have l0 : (w.alloc (.cells #[.int .i64 ba, .int .i64 bo, .int .i64 bt] 42)).cell? ⟨w.heap.size, 0, none⟩ = some (.int .i64 ba) := by go_simp
  have l1 : (w.alloc (.cells #[.int .i64 ba, .int .i64 bo, .int .i64 bt] 42)).cell? ⟨w.heap.size, 1, none⟩ = some (.int .i64 bo) := by go_simp
  have l2 : (w.alloc (.cells #[.int .i64 ba, .int .i64 bo, .int .i64 bt] 42)).cell? ⟨w.heap.size, 2, none⟩ = some (.int .i64 bt) := by go_simp
  have hs0 : (w.alloc (.cells #[.int .i64 ba, .int .i64 bo, .int .i64 bt] 42)).heap.size = w.heap.size + 1 := by simp
  obtain ⟨W0, hW0⟩ : ∃ W0, w.alloc (.cells #[.int .i64 ba, .int .i64 bo, .int .i64 bt] 42) = W0 := ⟨_, rfl⟩
  rw [hW0] at hb0 l0 l1 l2 hs0
  have HW0 : Hid _ := hW0
  clear hW0
  go_enter Tryd.func19, Tryd.ntmps19
  go_wp2_with (rw [HW0.out])
  clear HW0
  go_loopw [5, 6] (fun vv ov wr => ∃ (m : Nat) (O : Int), ov = .int .i64 O ∧ Hid (O = o + m) ∧ o ≤ O ∧ O ≤ bo ∧ m = (O - o).toNat ∧ wr.ownsRow W0.heap.size 42 3 vv m (bvals (halvesL ba bt o m)) ∧ Below W0.heap.size W0 wr) (fun _ ov _ => (bo - intOf ov).toNat)
  case atStart => exact ⟨0, o, rfl, by show o = o + (0 : Nat); omega, by omega, by omega, by omega, World.ownsRow_nil _ _ _ _, Below.refl _ _⟩
  case round =>
    obtain ⟨m, O, rfl, hO, hO1, hO2, hm, hown, hbw⟩ := hrel
    have k0 := keep l0 hbw
    have k1 := keep l1 hbw
    have k2 := keep l2 hbw
    by_cases hlt : O < bo
    · have hw1 := wrap_pw O ⟨by omega, by omega⟩
      have hp1 := pw_pos O
      have hp2 := pw_le (o := O) ⟨by omega, by omega⟩
      obtain ⟨P, hP⟩ : ∃ P, pw O = P := ⟨_, rfl⟩
      rw [hP] at hw1 hp1 hp2
      have hw2 : IntKind.i64.wrap (ba + P) = ba + P := IntWalk.i64_in _ (by omega)
      have HE : Hid (bvals (halvesL ba bt o m) ++ [Value.int .i64 (ba + P), .int .i64 O, .int .i64 bt] = bvals (halvesL ba bt o (m + 1))) := by
        show _ = bvals (halvesL ba bt o m ++ [⟨ba + pw (o + m), o + m, bt⟩])
        rw [bvals_append, ← hO.out, hP]
        rfl
      have hml : m + 1 ≤ maxLen := by unfold maxLen; omega
      have hsW := hbw.size
      have ownd : ((wr.alloc (.cells #[.int .i64 (ba + P), .int .i64 O, .int .i64 bt] 42)).drew).ownsRow W0.heap.size 42 3 u5 m (bvals (halvesL ba bt o m)) := (hown.alloc _).drew
      have hcd : ∀ j u, [Value.int .i64 (ba + P), .int .i64 O, .int .i64 bt][j]? = some u → ((wr.alloc (.cells #[.int .i64 (ba + P), .int .i64 O, .int .i64 bt] 42)).drew).cell? ((⟨wr.heap.size, 0, none⟩ : Addr).add j) = some u := fun j u h => by have := cell_three_new wr _ _ _ 42 j u h; simpa using this
      clear hP
      go_wp2
      go_region_law (refine step_append_own rfl (.tmp 14) (.tmp 24) 22 rfl 42 i1 _ 3 24 Tryd.underlying22 hj hy0 hy1 hy2 rfl (by decide) W0.heap.size u5 m (bvals (halvesL ba bt o m)) rfl ownd ⟨wr.heap.size, 0, none⟩ 1 1 [.int .i64 (ba + P), .int .i64 O, .int .i64 bt] rfl rfl hcd (ints_oneCell .i64 [_, _, _]) hml (by omega) (by simp; omega) ?_; intro v' w3 hown' hgrow)
      all_goals
        rw [HE.out] at hown'
        have hb' : Below W0.heap.size W0 w3 := ((hbw.alloc hsW _).drew).grown hgrow (by simp; omega) (fun g hg => (hown.lt g hg).1)
        obtain ⟨bo', c', rfl⟩ := owns_shape hown'
        have hO' : O + 1 = o + ((m + 1 : Nat) : Int) := by have := hO.out; omega
        have hw3 : IntKind.i64.wrap (O + 1) = O + 1 := IntWalk.i64_in _ (by omega)
        have hm' : m + 1 = (O + 1 - o).toNat := by omega
        have HM : Hid _ := hm'
        clear HE hgrow hm hm'
        go_wp2
        go_roundw
        · exact ⟨m + 1, O + 1, by simp; omega, hO', by omega, by omega, HM.out, hown', hb'⟩
        · simp [intOf]; omega
    · have hOb : O = bo := by omega
      subst hOb
      subst hm
      go_wp2
      go_ret
      exact ⟨_, rfl, owns_weaken hown (by omega), hb0.trans (hbw.mono (by omega))⟩

end Go.Proofs.YtpfafhgllabhbaaDoor

/-
  OWN TEXT. slices.Replace of one block by some: what all its ways share.
-/
namespace Go.Proofs.YtpfafhgllabhbaaDoor
open Go Go.RowKit Go.Proofs.YtpfafhgllabhbaaDoor.Kit

/-- A list with others in the place of one. -/
def repB (l : List Bk) (i : Nat) (v : List Bk) : List Bk := l.take i ++ (v ++ l.drop (i + 1))

/-- What is known of the call: the row s of N + 1 blocks, the row v of m blocks in another place. -/
structure RepIn (w : World) (base g N cap i m vc : Nat) (vo : Option Addr) (l vl : List Bk) (cur vs XS : List Value) : Prop where
  row : Row w 42 3 g cap cur
  bg : base ≤ g
  le : N + 1 ≤ cap
  iN : i ≤ N
  N3 : N ≤ 300
  m4 : m ≤ 4
  vsl : vs.length = m * 3
  v1 : ∀ u ∈ vs, u.oneCell' = true
  v0 : vo = none → m = 0 ∧ vc = 0
  vat : 0 < m → ∃ gv cv, vo = some ⟨gv, 0, none⟩ ∧ gv ≠ g ∧ w.heap[gv]? = some (.cells cv (42) (0, 0)) ∧ cv.size = vc * 3 ∧ cv.toList.take (m * 3) = vs
  xl : XS.length = (N - i) * 3
  x1 : ∀ u ∈ XS, u.oneCell' = true
  xat : ∀ j u, XS[j]? = some u → cur[(i + 1) * 3 + j]? = some u
  out : bvals (repB l i vl) = cur.take (i * 3) ++ (vs ++ XS)
  tk : cur.take (i * 3) = bvals (l.take i)

theorem repIn (w : World) (base g N cap i m vc : Nat) (vo : Option Addr) (l vl : List Bk) (hi : i ≤ N) (hN : N ≤ 300) (hm : m ≤ 4) (own : w.ownsRow base 42 3 (.slice (some ⟨g, 0, none⟩) (N + 1) cap) (N + 1) (bvals l)) (bv : Nat) (ov : w.ownsRow bv 42 3 (.slice vo m vc) m (bvals vl)) (hne : g < bv) :
    ∃ cur vs XS, RepIn w base g N cap i m vc vo l vl cur vs XS := by
  have hll := bowns_len own
  have hvl := bowns_len ov
  obtain ⟨hbg, hnc, cur, R, hcur⟩ := Row.of own
  refine ⟨cur, bvals vl, bvals (l.drop (i + 1)), R, hbg, hnc, hi, hN, hm, by rw [length_bvals, hvl], bvals_oneCell _, ?_, ?_, ?_, bvals_oneCell _, ?_, ?_, ?_⟩
  · intro h
    subst h
    rcases ov.2 with ⟨h', h0⟩ | ⟨g', cap', cur', h', _⟩
    · simp only [Value.slice.injEq] at h'
      exact ⟨h'.2.1, h'.2.2⟩
    · simp at h'
  · intro h0
    obtain ⟨gv, rfl, hbv, _⟩ := owns_head ov h0
    obtain ⟨_, hmc, cv, R', hcv⟩ := Row.of ov
    exact ⟨gv, cv.toArray, rfl, by omega, R'.h, by simpa using R'.len, by simpa using hcv⟩
  · rw [length_bvals, List.length_drop, hll]; omega
  · intro j u hu
    rw [← bvals_drop, List.getElem?_drop] at hu
    rw [← hcur, List.getElem?_take] at hu
    split at hu
    · exact hu
    · cases hu
  · unfold repB
    rw [bvals_append, bvals_append, take_cut hcur (Nat.mul_le_mul_right 3 (show i ≤ N + 1 by omega)), bvals_take]
  · rw [take_cut hcur (Nat.mul_le_mul_right 3 (show i ≤ N + 1 by omega)), bvals_take]

/-- The cells of v in a world in which its block is as it was. -/
theorem RepIn.src {w : World} {base g N cap i m vc : Nat} {vo : Option Addr} {l vl : List Bk} {cur vs XS : List Value} (h : RepIn w base g N cap i m vc vo l vl cur vs XS) {W : World} (hb : ∀ k, k < w.heap.size → k ≠ g → W.heap[k]? = w.heap[k]?) (h0 : 0 < m) :
    ∃ ad, vo = some ad ∧ ∀ j v, vs[j]? = some v → W.cell? (ad.add j) = some v := by
  obtain ⟨gv, cv, rfl, hne, hg, hs, ht⟩ := h.vat h0
  refine ⟨_, rfl, fun j v hj => ?_⟩
  have hlt := (Array.getElem?_eq_some_iff.1 hg).1
  rw [add_at, Nat.zero_add, cell_of_row _ _ _ _ _ _ ((hb gv hlt hne).trans hg)]
  rw [← ht, List.getElem?_take] at hj
  split at hj
  · simpa using hj
  · cases hj

end Go.Proofs.YtpfafhgllabhbaaDoor

/-
  OWN TEXT. slices.Replace of one block by two or more, in the middle: there is room.
-/
namespace Go.Proofs.YtpfafhgllabhbaaDoor
open Go Go.RowKit Go.Proofs.YtpfafhgllabhbaaDoor.Kit

theorem ov_false' (w : World) (g off lb cb gv la ca : Nat) (cur : List Value) (cv : Array Value) (cap : Nat) (R : Row w 42 3 g cap cur) (hv : w.heap[gv]? = some (.cells cv 42 (0, 0))) (hne : gv ≠ g) (hc : 0 < cv.size) :
    (callFunc 43 #[.slice (some ⟨g, off, none⟩) lb cb, .slice (some ⟨gv, 0, none⟩) la ca]).run Tryd.prog w = .ok (.value (.bool false)) w := by
  have hz : ∀ w, (Go.sizeOf 42).run Tryd.prog w = .ok 3 w := fun w => Tryd.sizeOf42 w
  rw [run_callFunc_extern Tryd.func43 (by kernel_rfl) (by kernel_rfl) (by kernel_rfl) (e := Extern.SlicesOverlaps.overlaps #[22, 22] #[4]) (by kernel_rfl),
    Lib.run_overlaps_apart w 22 4 42 Tryd.underlying22 3 hz ⟨g, off, none⟩ ⟨gv, 0, none⟩ lb cb la ca (Ne.symm hne) 42 42 (cap * 3) cv.size (by simp [World.shape?, R.h, R.len]) (by simp [World.shape?, hv]) (by omega) (by have := R.h; simp [World.frozen?, this]) (by have := R.h; simp [World.frozen?, this])]
  rfl

set_option maxRecDepth 10000 in
set_option maxHeartbeats 1000000 in
theorem bRep_shift (w : World) (base g N cap i m vc : Nat) (vo : Option Addr) (l vl : List Bk) (cur vs XS : List Value) (h : RepIn w base g N cap i m vc vo l vl cur vs XS) (hi : i < N) (hm : 2 ≤ m) (hroom : N + m ≤ cap) :
    Calls Tryd.prog 18 #[.slice (some ⟨g, 0, none⟩) (N + 1) cap, .int .i64 i, .int .i64 ((i : Int) + 1), .slice vo m vc] w fun e w' => RetRow w w' base g (N + m) (repB l i vl) e := by
  obtain ⟨gv, cv, rfl, hne, hv, hvs, hvt⟩ := h.vat (by omega)
  have R := h.row
  have hM := R.m
  unfold maxLen at hM
  have hRl := R.len
  have hvl := h.vsl
  have hxl := h.xl
  have hN := h.N3
  have hm4 := h.m4
  have hcv : 0 < cv.size := by have h1 := congrArg List.length hvt; rw [List.length_take, hvl, Array.length_toList] at h1; omega
  have hov : ∀ d off lb cb, (callFunc 43 #[.slice (some ⟨g, off, none⟩) lb cb, .slice (some ⟨gv, 0, none⟩) m vc]).run Tryd.prog (w.drewN d) = .ok (.value (.bool false)) (w.drewN d) := fun d off lb cb => ov_false' _ g off lb cb gv m vc cur cv cap (R.below (below_drawn d)) (((below_drawn d).block gv (Array.getElem?_eq_some_iff.1 hv).1).trans hv) hne hcv
  have b1 : ((i : Int) == (i : Int) + 1) = false := by simp; omega
  have b2 : ((i : Int) + 1 == (N : Int) + 1) = false := by simp; omega
  have b3 : (i : Int) + 1 ≤ (N : Int) + 1 := by omega
  have b4 : ((i : Int) + 1).toNat = i + 1 := by omega
  have b5 : (0 : Int) ≤ (i : Int) + 1 := by omega
  have b6 : IntKind.i64.wrap ((i : Int) + m) = (i : Int) + m := IntWalk.i64_in _ (by omega)
  have b7 : ((i : Int) + m).toNat = i + m := by omega
  have b8 : (0 : Int) ≤ (i : Int) + m := by omega
  have b9 : (i : Int) + m ≤ (i : Int) + m + ((N - i : Nat) : Int) := by omega
  have b10 : ¬ (cap = i + m) := by omega
  have b11 : ¬ (cap = i + 1) := by omega
  have b12 : ¬ (cap = i) := by omega
  have hsum : i + m + (N - i) = N + m := by omega
  have HS : Hid _ := hsum
  clear hsum
  have H : Hid _ := h
  clear h hvt
  go_enter Tryd.func18, Tryd.ntmps18
  go_wp2_with fail
  go_quiet (fail)
  go_wp2_with (simp only [hov])
  have RD := R.below ((below_drawn (w := w) nq).drew)
  have hbd : Below w.heap.size w ((w.drewN nq).drew) := (below_drawn (w := w) nq).drew
  clear hov
  go_region_law (refine step_copy_k rfl (.tmp 126) (.tmp 129) 22 22 rfl 42 3 Tryd.underlying22 size_block (some ⟨g, (i + m) * 3, none⟩) (some ⟨g, (i + 1) * 3, none⟩) (N - i) (cap - (i + m)) (N - i) (cap - (i + 1)) (by simp [Act.eval, Act.put]) (by simp [Act.eval, Act.put]) g ((i + m) * 3) cur 42 RD.h XS (N - i) (by simp only [Nat.min_def]; split <;> omega) hxl (fun _ => ⟨rfl, _, rfl, fun j v hj => by rw [add_at, RD.cell]; exact H.out.xat j v hj⟩) (by omega) H.out.x1 ?_; intro w1 hg1 hb1)
  all_goals
    have hK : ∀ k, k < w.heap.size → k ≠ g → w1.heap[k]? = w.heap[k]? := fun k hk hne => (hb1.block k (by have := hbd.size; omega) hne).trans (hbd.block k hk)
    clear RD
    go_wp2_with (refine wpList_copy_k rfl (.tmp 133) (.tmp 134) 22 22 rfl 42 3 Tryd.underlying22 size_block _ _ _ _ _ _ rfl rfl g (i * 3) (splice cur ((i + m) * 3) XS) 42 hg1.out vs m (by simp only [Nat.min_def]; split <;> omega) hvl (fun _ => ⟨rfl, H.out.src hK (by omega)⟩) (by rw [length_splice _ _ _ (by omega)]; omega) H.out.v1 ?_; intro w2 hg2 hb2)
    go_ret
    have e3 : (i + m) * 3 = i * 3 + vs.length := by omega
    have hl2 : (splice (splice cur ((i + m) * 3) XS) (i * 3) vs).length = cap * 3 := by rw [length_splice _ _ _ (by rw [length_splice _ _ _ (by omega)]; omega), length_splice _ _ _ (by omega)]; exact hRl
    have R2 : Row w2 42 3 g cap (splice (splice cur ((i + m) * 3) XS) (i * 3) vs) := ⟨hg2.out, hl2, R.m⟩
    rw [HS.out]
    refine ⟨g, cap, rfl, R2.owns H.out.bg hroom ?_, ((But.of_below hbd).trans hb1).trans hb2, .inl rfl⟩
    rw [H.out.out, e3, show (N + m) * 3 = i * 3 + vs.length + XS.length by omega]
    exact splice_two_b (by omega)

end Go.Proofs.YtpfafhgllabhbaaDoor

/-
  OWN TEXT. slices.Replace of one block by none or one, in the middle: there is room.
-/
namespace Go.Proofs.YtpfafhgllabhbaaDoor
open Go Go.RowKit Go.Proofs.YtpfafhgllabhbaaDoor.Kit

set_option maxRecDepth 10000 in
set_option maxHeartbeats 1000000 in
theorem bRep_less (w : World) (base g N cap i m vc : Nat) (vo : Option Addr) (l vl : List Bk) (cur vs XS : List Value) (h : RepIn w base g N cap i m vc vo l vl cur vs XS) (hi : i < N) (hm : m ≤ 1) :
    Calls Tryd.prog 18 #[.slice (some ⟨g, 0, none⟩) (N + 1) cap, .int .i64 i, .int .i64 ((i : Int) + 1), .slice vo m vc] w fun e w' => RetRow w w' base g (N + m) (repB l i vl) e := by
  have R := h.row
  have hM := R.m
  unfold maxLen at hM
  have hRl := R.len
  have hvl := h.vsl
  have hxl := h.xl
  have hN := h.N3
  have hle := h.le
  have hroom : N + m ≤ cap := by omega
  have b1 : ((i : Int) == (i : Int) + 1) = false := by simp; omega
  have b2 : ((i : Int) + 1 == (N : Int) + 1) = false := by simp; omega
  have b3 : (i : Int) + 1 ≤ (N : Int) + 1 := by omega
  have b4 : ((i : Int) + 1).toNat = i + 1 := by omega
  have b5 : (0 : Int) ≤ (i : Int) + 1 := by omega
  have b6 : IntKind.i64.wrap ((i : Int) + m) = (i : Int) + m := IntWalk.i64_in _ (by omega)
  have b7 : ((i : Int) + m).toNat = i + m := by omega
  have b8 : (0 : Int) ≤ (i : Int) + m := by omega
  have b9 : (i : Int) + m ≤ (i : Int) + m + ((N - i : Nat) : Int) := by omega
  have b10 : ¬ (cap = i + m) := by omega
  have b11 : ¬ (cap = i + 1) := by omega
  have b12 : ¬ (cap = i) := by omega
  have b13 : (i : Int) + m ≤ (i : Int) + 1 := by omega
  have b14 : (i : Int) + m + ((N - i : Nat) : Int) ≤ (N : Int) + 1 := by omega
  have hsum : i + m + (N - i) = N + m := by omega
  have HS : Hid _ := hsum
  have H : Hid _ := h
  clear h hsum
  go_enter Tryd.func18, Tryd.ntmps18
  go_wp2_with fail
  go_quiet (fail)
  have RD := R.below (below_drawn (w := w) nq)
  have hbd : Below w.heap.size w (w.drewN nq) := below_drawn (w := w) nq
  have hK : ∀ k, k < w.heap.size → k ≠ g → (w.drewN nq).heap[k]? = w.heap[k]? := fun k hk hne => hbd.block k hk
  go_wp2_with (refine wpList_copy_k rfl (.tmp 95) (.tmp 96) 22 22 rfl 42 3 Tryd.underlying22 size_block _ _ _ _ _ _ rfl rfl g (i * 3) cur 42 RD.h vs m (by simp only [Nat.min_def]; split <;> omega) hvl (fun h0 => ⟨rfl, H.out.src hK h0⟩) (by omega) H.out.v1 ?_; intro w1 hg1 hb1)
  have hR1 : Row w1 42 3 g cap (splice cur (i * 3) vs) := ⟨hg1.out, by rw [length_splice _ _ _ (by omega)]; exact hRl, R.m⟩
  have hR1d := hR1.below (Below.refl _ _).drew
  have hX : ∀ j v, XS[j]? = some v → (splice cur (i * 3) vs)[(i + 1) * 3 + j]? = some v := fun j v hj => by
    have h1 := H.out.xat j v hj
    unfold splice
    rw [List.getElem?_append_right (by rw [List.length_take]; omega), List.getElem?_append_right (by rw [List.length_take]; omega), List.getElem?_drop]
    rw [← h1]
    congr 1
    rw [List.length_take]
    omega
  have HX : Hid _ := hX
  clear hX hK
  go_region_law (refine step_copy_k rfl (.tmp 103) (.tmp 106) 22 22 rfl 42 3 Tryd.underlying22 size_block (some ⟨g, (i + m) * 3, none⟩) (some ⟨g, (i + 1) * 3, none⟩) (N - i) (cap - (i + m)) (N - i) (cap - (i + 1)) (by simp [Act.eval, Act.put]) (by simp [Act.eval, Act.put]) g ((i + m) * 3) (splice cur (i * 3) vs) 42 hR1d.h XS (N - i) (by simp only [Nat.min_def]; split <;> omega) hxl (fun _ => ⟨rfl, _, rfl, fun j v hj => by rw [add_at, hR1d.cell]; exact HX.out j v hj⟩) (by rw [length_splice _ _ _ (by omega)]; omega) H.out.x1 ?_; intro w2 hg2 hb2)
  all_goals
    have hl2 : (splice (splice cur (i * 3) vs) ((i + m) * 3) XS).length = cap * 3 := by rw [length_splice _ _ _ (by rw [length_splice _ _ _ (by omega)]; omega), length_splice _ _ _ (by omega)]; exact hRl
    clear hR1d HX hR1
    by_cases hq0 : cap = i + m + (N - i)
    · have hq : (cap = i + m + (N - i)) = True := eq_true hq0
      have HQ : Hid _ := hq0
      clear hq0
      go_wp2_with (refine wpList_clear_k rfl (.tmp 110) 22 rfl 42 _ 3 Tryd.underlying22 zero_block rfl zero_one _ _ _ rfl g ((N + m) * 3) (splice (splice cur (i * 3) vs) ((i + m) * 3) XS) hg2.out (fun h0 => by exfalso; have := HS.out; have := HQ.out; omega) (by have := HS.out; have := HQ.out; omega) ?_; intro w3 cur3 hg3 hb3)
      go_ret
      obtain ⟨g1, g2, g3⟩ := hg3.out
      have e3 : (i + m) * 3 = i * 3 + vs.length := by omega
      have R2 : Row w3 42 3 g cap cur3 := ⟨g1, by rw [g2]; exact hl2, R.m⟩
      rw [HS.out]
      refine ⟨g, cap, rfl, R2.owns H.out.bg hroom ?_, (((But.of_below hbd).trans hb1).trans ((But.of_below (Below.refl _ _).drew).trans hb2)).trans hb3, .inl rfl⟩
      rw [g3, H.out.out, e3, show (N + m) * 3 = i * 3 + vs.length + XS.length by omega]
      exact splice_two_a (by omega)
    · go_wp2_with (refine wpList_clear_k rfl (.tmp 110) 22 rfl 42 _ 3 Tryd.underlying22 zero_block rfl zero_one _ _ _ rfl g ((N + m) * 3) (splice (splice cur (i * 3) vs) ((i + m) * 3) XS) hg2.out (fun _ => by rw [HS.out]) (by have := HS.out; omega) ?_; intro w3 cur3 hg3 hb3)
      go_ret
      obtain ⟨g1, g2, g3⟩ := hg3.out
      have e3 : (i + m) * 3 = i * 3 + vs.length := by omega
      have R2 : Row w3 42 3 g cap cur3 := ⟨g1, by rw [g2]; exact hl2, R.m⟩
      rw [HS.out]
      refine ⟨g, cap, rfl, R2.owns H.out.bg hroom ?_, (((But.of_below hbd).trans hb1).trans ((But.of_below (Below.refl _ _).drew).trans hb2)).trans hb3, .inl rfl⟩
      rw [g3, H.out.out, e3, show (N + m) * 3 = i * 3 + vs.length + XS.length by omega]
      exact splice_two_a (by omega)

end Go.Proofs.YtpfafhgllabhbaaDoor
