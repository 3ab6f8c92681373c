/-
  OWN TEXTS, bundled: ZcPut2, ZcBackI, ZcBack, HcBack.
-/
import Derived.Test.YtbjlbmofdnkmiaaPagesDrainsPart10
import Derived.Deep.RegionHeld3
import Derived.Test.YtbjlbmofdnkmiaaPagesDrainsPart2
import Derived.Test.YtbjlbmofdnkmiaaPagesDrainsPart8
import Derived.Test.YtbjlbmofdnkmiaaPagesDrainsPart6
import Derived.Test.YtbjlbmofdnkmiaaPagesDrainsPart9

/-
  OWN TEXT. Contract of the code: buddy.put, whole.
-/
namespace Go.Proofs.Ytbjlbmofdnkmiaa
open Go Go.RowKit Go.Proofs.Ytbjlbmofdnkmiaa.Kit

theorem may_len {z : Zn} (h : ZMay z) : z.free.length ≤ 256 := by
  have := freeOk_count h.free h.new.2.2.2.2 h.new.2.1
  have := h.new.2.2.1
  have := h.new.1
  omega
theorem may_blk {z : Zn} (h : ZMay z) : ∀ b ∈ z.free, blkIn z.f z.t b.a b.o := by
  intro b hb
  obtain ⟨i, hi, rfl⟩ := List.getElem_of_mem hb
  have := (freeOk_at h.free hi rfl).1
  rw [List.getD_eq_getElem?_getD, List.getElem?_eq_getElem hi] at this
  exact this

theorem wrap_pw (o : Int) (h : ordOk o) : IntKind.i64.wrap ((2 : Int) ^ o.toNat) = pw o := by
  rcases ord_cases h with ⟨rfl, e⟩ | ⟨rfl, e⟩ | ⟨rfl, e⟩ | ⟨rfl, e⟩ | ⟨rfl, e⟩ <;> (rw [e]; rfl)

set_option maxHeartbeats 4000000 in
theorem put_twice (w : World) (base zb g n cap k tn tk : Nat) (z : Zn) (a o : Int) (Z : Zo w base zb g n cap k tn tk z) (hM : ZMay z) (hA : blkIn z.f z.t a o) (hv : ovlP z.free a o) :
    Calls Try.prog 75 #[.pointer (some ⟨zb, 0, none⟩), .int .i64 a, .int .i64 o] w fun e w' => e = .returned (.int .i64 5) ∧ Below w.heap.size w w' := by
  obtain ⟨⟨o0, o4⟩, a1, a2, a3⟩ := id hA
  obtain ⟨n1, n2, n3, n4, n5⟩ := hM.new
  have hzl := Z.box.lt
  have hgl := Z.glt
  have hkl := Z.klt
  have hp1 := pw_pos o
  have hp2 := pw_le (o := o) ⟨o0, o4⟩
  have hw1 := wrap_pw o ⟨o0, o4⟩
  obtain ⟨P, hP⟩ : ∃ P, pw o = P := ⟨_, rfl⟩
  have HP : Hid (pw o = P) := hP
  rw [hP] at hw1 hp1 hp2
  have hw2 : IntKind.i64.wrap (a + P) = a + P := IntWalk.i64_in _ (by omega)
  have s0 : (w.alloc (.cells #[.int .i64 a] 3)).cell? ⟨w.heap.size, 0, none⟩ = some (.int .i64 a) := by simp
  have hb1 : Below w.heap.size w (((w.alloc (.cells #[.int .i64 a] 3)).alloc (.cells #[.int .i64 (a + P)] 3)).drew) := (((Below.refl _ _).alloc (Nat.le_refl _) _).alloc (by simp) _).drew
  have p1 : (((w.alloc (.cells #[.int .i64 a] 3)).alloc (.cells #[.int .i64 (a + P)] 3)).drew).cell? ⟨w.heap.size, 0, none⟩ = some (.int .i64 a) := by go_simp
  have p2 : (((w.alloc (.cells #[.int .i64 a] 3)).alloc (.cells #[.int .i64 (a + P)] 3)).drew).cell? ⟨w.heap.size + 1, 0, none⟩ = some (.int .i64 (a + P)) := by go_simp
  have p3 : (((w.alloc (.cells #[.int .i64 a] 3)).alloc (.cells #[.int .i64 (a + P)] 3)).drew).frozen? ⟨w.heap.size, 0, none⟩ = false := by go_simp
  have p4 : (((w.alloc (.cells #[.int .i64 a] 3)).alloc (.cells #[.int .i64 (a + P)] 3)).drew).heap.size = w.heap.size + 2 := by simp
  obtain ⟨W1, hW1⟩ : ∃ W1, ((w.alloc (.cells #[.int .i64 a] 3)).alloc (.cells #[.int .i64 (a + P)] 3)).drew = W1 := ⟨_, rfl⟩
  have HW1 : Hid _ := hW1
  rw [hW1] at hb1 p1 p2 p3 p4
  have Z1 := Z.below hb1
  have y2 := Z1.box.c2
  have hlen := bowns_len Z1.own
  have hl256 := may_len hM
  have hHold : HoldsB 90 #[.pointer (some ⟨w.heap.size + 1, 0, none⟩), .pointer (some ⟨w.heap.size, 0, none⟩)] z.free (ovl1 (a + P) a) W1 := fun i hi W hb => by
    have hB := (freeOk_at hM.free hi rfl).1
    exact putF1_any W _ _ (a + P) a _ _ _ (keep p2 hb) (keep p1 hb) hB.1 (by have := hB.2.1; omega) (by have := hB.2.2.1; omega)
  have HCt := bContains_any W1 90 #[.pointer (some ⟨w.heap.size + 1, 0, none⟩), .pointer (some ⟨w.heap.size, 0, none⟩)] (some ⟨g, 0, none⟩) n cap z.free (ovl1 (a + P) a) (blks_own Z1.own (by omega)) putF1_call hHold
  clear hP hW1 hHold
  go_enter Try.func75, Try.ntmps75
  go_wp2_with fail
  go_region_held3 (fun wx => wx.cell? ⟨w.heap.size, 0, none⟩ = some (.int .i64 a)) (first | assumption | go_keep) (fail)
  rw [HW1.out]
  go_wp2_with fail
  go_at_call 89
  refine HCt.mono ?_
  rintro e W2 ⟨rfl, hb2⟩
  have hbb := hb1.trans (hb2.mono hb1.size)
  have hany : z.free.any (ovl1 (a + P) a) = true := by have := (ovl_any z.free a o).2 hv; rw [HP.out] at this; exact this
  rw [hany]
  clear hany HCt Z Z1 HW1 hM hv hA
  go_wp2
  go_ret
  exact ⟨rfl, hbb⟩

/-- What the last statement of put reads. -/
structure PutF (ab zb k K g n cap : Nat) (f t A x : Int) (tv : Value) (W : World) : Prop where
  a : W.cell? ⟨ab, 0, none⟩ = some (.int .i64 A)
  c0 : W.cell? ⟨zb, 0, none⟩ = some (.int .i64 f)
  c1 : W.cell? ⟨zb, 1, none⟩ = some (.int .i64 t)
  c2 : W.cell? ⟨zb, 2, none⟩ = some (.slice (some ⟨g, 0, none⟩) n cap)
  c3 : W.cell? ⟨zb, 3, none⟩ = some tv
  e : W.cell? ⟨k, K, none⟩ = some (.int .i64 x)
theorem PutF.below {ab zb k K g n cap : Nat} {f t A x : Int} {tv : Value} {W W' : World} (h : PutF ab zb k K g n cap f t A x tv W) (hb : Below W.heap.size W W') : PutF ab zb k K g n cap f t A x tv W' := ⟨keep h.a hb, keep h.c0 hb, keep h.c1 hb, keep h.c2 hb, keep h.c3 hb, keep h.e hb⟩
theorem PutF.but {ab zb k K g n cap c : Nat} {f t A x : Int} {tv : Value} {W W' : World} (h : PutF ab zb k K g n cap f t A x tv W) (hb : But c W W') (h1 : ab ≠ c) (h2 : zb ≠ c) (h3 : k ≠ c) : PutF ab zb k K g n cap f t A x tv W' := ⟨hb.cell h.a h1, hb.cell h.c0 h2, hb.cell h.c1 h2, hb.cell h.c2 h2, hb.cell h.c3 h2, hb.cell h.e h3⟩

/-- What a put leaves: the zone with another list, its row the old one or a new one. -/
def PutOk (w w' : World) (base zb g k tn tk : Nat) (z : Zn) : Prop :=
  ∃ g' n' cap', Zo w' base zb g' n' cap' k tn tk z ∧ (g' = g ∨ w.heap.size ≤ g') ∧ Bu2 g zb w w'

set_option maxHeartbeats 8000000 in
theorem put_ok (w : World) (base zb g n cap k tn tk : Nat) (z : Zn) (a o : Int) (Z : Zo w base zb g n cap k tn tk z) (hM : ZMay z) (hA : blkIn z.f z.t a o) (hv : ¬ ovlP z.free a o) :
    Calls Try.prog 75 #[.pointer (some ⟨zb, 0, none⟩), .int .i64 a, .int .i64 o] w fun e w' => e = .returned (.int .i64 0) ∧ PutOk w w' base zb g k tn tk (backZ z a o) := by
  obtain ⟨⟨o0, o4⟩, a1, a2, a3⟩ := id hA
  obtain ⟨n1, n2, n3, n4, n5⟩ := hM.new
  have hzl := Z.box.lt
  have hgl := Z.glt
  have hkl := Z.klt
  have hp1 := pw_pos o
  have hp2 := pw_le (o := o) ⟨o0, o4⟩
  have hw1 := wrap_pw o ⟨o0, o4⟩
  obtain ⟨P, hP⟩ : ∃ P, pw o = P := ⟨_, rfl⟩
  have HP : Hid (pw o = P) := hP
  rw [hP] at hw1 hp1 hp2
  have hw2 : IntKind.i64.wrap (a + P) = a + P := IntWalk.i64_in _ (by omega)
  have s0 : (w.alloc (.cells #[.int .i64 a] 3)).cell? ⟨w.heap.size, 0, none⟩ = some (.int .i64 a) := by simp
  have hb1 : Below w.heap.size w (((w.alloc (.cells #[.int .i64 a] 3)).alloc (.cells #[.int .i64 (a + P)] 3)).drew) := (((Below.refl _ _).alloc (Nat.le_refl _) _).alloc (by simp) _).drew
  have p1 : (((w.alloc (.cells #[.int .i64 a] 3)).alloc (.cells #[.int .i64 (a + P)] 3)).drew).cell? ⟨w.heap.size, 0, none⟩ = some (.int .i64 a) := by go_simp
  have p2 : (((w.alloc (.cells #[.int .i64 a] 3)).alloc (.cells #[.int .i64 (a + P)] 3)).drew).cell? ⟨w.heap.size + 1, 0, none⟩ = some (.int .i64 (a + P)) := by go_simp
  have p3 : (((w.alloc (.cells #[.int .i64 a] 3)).alloc (.cells #[.int .i64 (a + P)] 3)).drew).frozen? ⟨w.heap.size, 0, none⟩ = false := by go_simp
  have p4 : (((w.alloc (.cells #[.int .i64 a] 3)).alloc (.cells #[.int .i64 (a + P)] 3)).drew).heap.size = w.heap.size + 2 := by simp
  obtain ⟨W1, hW1⟩ : ∃ W1, ((w.alloc (.cells #[.int .i64 a] 3)).alloc (.cells #[.int .i64 (a + P)] 3)).drew = W1 := ⟨_, rfl⟩
  have HW1 : Hid _ := hW1
  rw [hW1] at hb1 p1 p2 p3 p4
  have Z1 := Z.below hb1
  have y2 := Z1.box.c2
  have hlen := bowns_len Z1.own
  have hl256 := may_len hM
  have hHold : HoldsB 90 #[.pointer (some ⟨w.heap.size + 1, 0, none⟩), .pointer (some ⟨w.heap.size, 0, none⟩)] z.free (ovl1 (a + P) a) W1 := fun i hi W hb => by
    have hB := (freeOk_at hM.free hi rfl).1
    exact putF1_any W _ _ (a + P) a _ _ _ (keep p2 hb) (keep p1 hb) hB.1 (by have := hB.2.1; omega) (by have := hB.2.2.1; omega)
  have HCt := bContains_any W1 90 #[.pointer (some ⟨w.heap.size + 1, 0, none⟩), .pointer (some ⟨w.heap.size, 0, none⟩)] (some ⟨g, 0, none⟩) n cap z.free (ovl1 (a + P) a) (blks_own Z1.own (by omega)) putF1_call hHold
  clear hP hW1 hHold
  go_enter Try.func75, Try.ntmps75
  go_wp2_with fail
  go_region_held3 (fun wx => wx.cell? ⟨w.heap.size, 0, none⟩ = some (.int .i64 a)) (first | assumption | go_keep) (fail)
  rw [HW1.out]
  go_wp2_with fail
  go_at_call 89
  refine HCt.mono ?_
  rintro e W2 ⟨rfl, hb2⟩
  have hany : z.free.any (ovl1 (a + P) a) = false := by
    cases hh : z.free.any (ovl1 (a + P) a) with
    | false => rfl
    | true => rw [← HP.out] at hh; exact absurd ((ovl_any z.free a o).1 hh) hv
  rw [hany]
  have Z2 := Z1.below hb2
  have hB2 := hb1.trans (hb2.mono hb1.size)
  have r1 := keep p1 hb2
  have r3 : W2.frozen? ⟨w.heap.size, 0, none⟩ = false := (hb2.frozen (p := ⟨w.heap.size, 0, none⟩) (World.block_lt_of_cell? W1 _ p1)).trans p3
  obtain ⟨R, hR⟩ : ∃ R, backGo (4 - o).toNat z.free a o = R := ⟨_, rfl⟩
  have HJ := join_any W2 base zb g n cap z.f z.t (.slice (some ⟨k, 0, none⟩) tn tk) z.free a o hM.new Z2.box Z2.own Z2.gz (by omega) (inc_of_free hM.free) (may_blk hM) hA R hR
  have HR : Hid (backZ z a o = ⟨z.f, z.t, addB R.1 ⟨R.2.1, R.2.2, z.types.getD ((R.2.1 - z.f) / 8).toNat 0⟩, z.types⟩) := by show _ = _; unfold backZ; rw [hR]
  have hs2 := hb2.size
  clear hany HCt Z Z1 HW1 hv hA hR p1 p2 p3 y2 hb1 s0
  go_wp2_with fail
  go_at_call 92
  refine HJ.mono ?_
  rintro e W3 ⟨⟨n', rfl, hn', B3, own3, hbu3⟩, hA3⟩
  obtain ⟨L, A, O⟩ := R
  dsimp only at own3 hA3 HR ⊢
  have gab1 : w.heap.size ≠ zb := by omega
  have gab2 : w.heap.size ≠ g := by omega
  have gab3 : w.heap.size ≠ k := by omega
  have t1 := hbu3.cell r1 gab2 gab1
  have t3 : W3.frozen? ⟨w.heap.size, 0, none⟩ = false := (World.frozen?_of_block (a := ⟨w.heap.size, 0, none⟩) (hbu3.block w.heap.size (World.block_lt_of_cell? W2 _ r1) gab2 gab1)).trans r3
  have typ3 := hbu3.owns Z2.typ (Ne.symm Z2.gk) Z2.kz
  have hbt4 : But w.heap.size W3 (W3.setCell ⟨w.heap.size, 0, none⟩ (.int .i64 A)) := (But.refl _ _).setCell _
  have B4 := B3.but hbt4 (Ne.symm gab1)
  have own4 := own_but own3 hbt4 (Ne.symm gab2)
  have typ4 := own_but typ3 hbt4 (Ne.symm gab3)
  have at4 : (W3.setCell ⟨w.heap.size, 0, none⟩ (.int .i64 A)).cell? ⟨w.heap.size, 0, none⟩ = some (.int .i64 A) := World.cell?_setCell_same _ _ _ t1
  have hU4 : Bu2 g zb w (W3.setCell ⟨w.heap.size, 0, none⟩ (.int .i64 A)) := by
    have h3 : Bu2 g zb w W3 := (Bu2.of_below hB2).trans hbu3
    exact ⟨hbt4.os.trans h3.os, hbt4.tape.trans h3.tape, hbt4.output.trans h3.output, Nat.le_trans h3.size hbt4.size, fun j hj h1 h2 => (hbt4.block j (Nat.lt_of_lt_of_le hj h3.size) (by omega)).trans (h3.block j hj h1 h2)⟩
  obtain ⟨W4, hW4⟩ : ∃ W4, W3.setCell ⟨w.heap.size, 0, none⟩ (.int .i64 A) = W4 := ⟨_, rfl⟩
  rw [hW4] at B4 own4 typ4 at4 hU4
  have HW4 : Hid _ := hW4
  have y2 := B4.c2
  have hlL := bowns_len own4
  have hHold : HoldsB 93 #[.pointer (some ⟨w.heap.size, 0, none⟩)] L (fun b => decide (A < b.a)) W4 := fun i hi W hb => putF2_any W _ A _ _ _ (keep at4 hb)
  have HIx := bIndex_any W4 93 #[.pointer (some ⟨w.heap.size, 0, none⟩)] (some ⟨g, 0, none⟩) n' cap L (fun b => decide (A < b.a)) (blks_own own4 (by omega)) putF2_call hHold
  obtain ⟨⟨oo0, oo4⟩, a4, a5, a6⟩ := hA3
  have hlenT := hM.len
  have htl := owns_len typ4
  obtain ⟨K, hK⟩ : ∃ K : Nat, (A - z.f) / 8 = (K : Int) := ⟨((A - z.f) / 8).toNat, by omega⟩
  obtain ⟨x, hx⟩ : ∃ x, z.types.getD K 0 = x := ⟨_, rfl⟩
  clear hHold hW4 HJ B3 own3 typ3 hbt4 hbu3 r1 r3
  go_wp2_with (rw [HW4.out])
  go_at_call 46
  refine HIx.mono ?_
  rintro e W5 ⟨hf, hb5⟩
  have B5 := B4.below hb5
  have own5 := owns_below own4 hb5 (Nat.le_refl _)
  have typ5 := owns_below typ4 hb5 (Nat.le_refl _)
  have at5 := keep at4 hb5
  have hU5 := hU4.trans (.of_below hb5)
  have hs5 : w.heap.size ≤ W5.heap.size := hU5.size
  clear HIx B4 own4 typ4 at4 hU4 hb5 y2 t1 t3 HW4
  rcases hf with ⟨I, hI, rfl, hi1, hi2⟩ | ⟨rfl, hi1⟩
  · have hI1 : ∀ j, j < I → ¬ (⟨A, O, x⟩ : Bk).a < (L.getD j .zero).a := fun j hj => of_decide_eq_false (hi2 j hj)
    have hI2 : I < L.length → (⟨A, O, x⟩ : Bk).a < (L.getD I .zero).a := fun _ => of_decide_eq_true hi1
    clear hi1 hi2
    have hKn : K < tn := by omega
    have hKi : (K : Int) < (tn : Int) := by omega
    have c0 := B5.c0
    have c1 := B5.c1
    have c2 := B5.c2
    have c3 := B5.c3
    have z2 := B5.z2
    have hcx : W5.cell? ⟨k, K, none⟩ = some (.int .i64 x) := by
      have h := typ5.cellAt K (by omega)
      rw [vals_get, List.getElem?_eq_getElem (by omega)] at h
      rw [h, ← hx, List.getD_eq_getElem?_getD, List.getElem?_eq_getElem (by omega)]
      rfl
    have S0 : PutF w.heap.size zb k K g n' cap z.f z.t A x (.slice (some ⟨k, 0, none⟩) tn tk) W5 := ⟨at5, c0, c1, c2, c3, hcx⟩
    have S1 : PutF w.heap.size zb k K g n' cap z.f z.t A x (.slice (some ⟨k, 0, none⟩) tn tk) { W5 with drawn := W5.drawn + 1 } := S0.below (Below.refl _ _).drew
    have m1 : ∀ wx, PutF w.heap.size zb k K g n' cap z.f z.t A x (.slice (some ⟨k, 0, none⟩) tn tk) wx → wx.cell? ⟨w.heap.size, 0, none⟩ = some (.int .i64 A) := fun wx h => h.a
    have m2 : ∀ wx, PutF w.heap.size zb k K g n' cap z.f z.t A x (.slice (some ⟨k, 0, none⟩) tn tk) wx → wx.cell? ⟨zb, 0, none⟩ = some (.int .i64 z.f) := fun wx h => h.c0
    have m3 : ∀ wx, PutF w.heap.size zb k K g n' cap z.f z.t A x (.slice (some ⟨k, 0, none⟩) tn tk) wx → wx.cell? ⟨zb, 1, none⟩ = some (.int .i64 z.t) := fun wx h => h.c1
    have m4 : ∀ wx, PutF w.heap.size zb k K g n' cap z.f z.t A x (.slice (some ⟨k, 0, none⟩) tn tk) wx → wx.cell? ⟨zb, 2, none⟩ = some (.slice (some ⟨g, 0, none⟩) n' cap) := fun wx h => h.c2
    have m5 : ∀ wx, PutF w.heap.size zb k K g n' cap z.f z.t A x (.slice (some ⟨k, 0, none⟩) tn tk) wx → wx.cell? ⟨zb, 3, none⟩ = some (.slice (some ⟨k, 0, none⟩) tn tk) := fun wx h => h.c3
    have m6 : ∀ wx, PutF w.heap.size zb k K g n' cap z.f z.t A x (.slice (some ⟨k, 0, none⟩) tn tk) wx → wx.cell? ⟨k, K, none⟩ = some (.int .i64 x) := fun wx h => h.e
    have HG : Hid (∀ V, Below W5.heap.size W5 V → Calls Try.prog 95 #[.agg #[.int .i64 z.f, .int .i64 z.t, .slice (some ⟨g, 0, none⟩) n' cap, .slice (some ⟨k, 0, none⟩) tn tk], .int .i64 A] V fun e w' => e = .returned (.int .i64 K) ∧ Below W5.heap.size W5 w') := fun V hV => by
      rw [← hK]
      refine (group_any V z.f z.t _ _ n' cap tn tk A n1 a4 (by omega)).mono ?_
      rintro e w' ⟨rfl, hb⟩
      exact ⟨rfl, hV.trans (hb.mono hV.size)⟩
    have HI : Hid (∀ w6, Below W5.heap.size W5 w6 → Calls Try.prog 94 #[.slice (some ⟨g, 0, none⟩) n' cap, .int .i64 (I : Int), .slice (some ⟨w6.heap.size, 0, none⟩) 1 1] (w6.alloc (.cells #[.int .i64 A, .int .i64 O, .int .i64 x] 63)) fun e w7 => RetRow (w6.alloc (.cells #[.int .i64 A, .int .i64 O, .int .i64 x] 63)) w7 base g (n' + 1) (insB L I ⟨A, O, x⟩) e) := fun w6 hb6 => by
      refine bIns_any _ base g n' cap I w6.heap.size L ⟨A, O, x⟩ (by omega) (by omega) (owns_below (owns_below own5 hb6 (Nat.le_refl _)) (below_box _ _) (Nat.le_refl _)) (heap_alloc_new _ _) (by have := hb6.size; omega)
    have HADD : Hid (backZ z a o = ⟨z.f, z.t, insB L I ⟨A, O, x⟩, z.types⟩) := by
      show _ = _
      rw [HR.out, hK, show ((K : Int)).toNat = K from rfl, hx, addB_at (by omega) hI1 hI2]
    clear hI1 hI2 HR hK hx
    have hBd := (Below.refl W5.heap.size W5).drew
    go_wp2_with fail
    refine wp_region_peel (S := fun wx => PutF w.heap.size zb k K g n' cap z.f z.t A x (.slice (some ⟨k, 0, none⟩) tn tk) wx) 24 _ (by kernel_rfl) (by kernel_rfl) rfl ?_
    simp only [List.take_succ_cons, List.take_zero]
    refine takeH 0 (v := .pointer (some ⟨zb, 0, none⟩)) rfl (by kernel_rfl) (by kernel_rfl) (by kernel_rfl) (fun _ _ _ h => h) rfl (fun wx hSx => ?_) S1 ?_
    · go_simp
    try simp only [Act.put, List.setIfInBounds_toArray, List.set_cons_zero, List.set_cons_succ]
    refine takeH 1 (v := .pointer (some ⟨zb, 0, none⟩)) rfl (by kernel_rfl) (by kernel_rfl) (by kernel_rfl) (fun _ _ _ h => h) rfl (fun wx hSx => ?_) S1 ?_
    · go_simp
    try simp only [Act.put, List.setIfInBounds_toArray, List.set_cons_zero, List.set_cons_succ]
    refine takeH 2 (v := .pointer (some ⟨zb, 0, none⟩)) rfl (by kernel_rfl) (by kernel_rfl) (by kernel_rfl) (fun _ _ _ h => h) rfl (fun wx hSx => ?_) S1 ?_
    · go_simp
    try simp only [Act.put, List.setIfInBounds_toArray, List.set_cons_zero, List.set_cons_succ]
    refine takeH 3 (v := .pointer (some ⟨zb, 2, none⟩)) rfl (by kernel_rfl) (by kernel_rfl) (by kernel_rfl) (fun _ _ _ h => h) rfl (fun wx hSx => ?_) S1 ?_
    · go_simp
    try simp only [Act.put, List.setIfInBounds_toArray, List.set_cons_zero, List.set_cons_succ]
    refine takeH 4 (v := .slice (some ⟨g, 0, none⟩) n' cap) rfl (by kernel_rfl) (by kernel_rfl) (by kernel_rfl) (fun _ _ _ h => h) rfl (fun wx hSx => ?_) S1 ?_
    · go_simp
    try simp only [Act.put, List.setIfInBounds_toArray, List.set_cons_zero, List.set_cons_succ]
    refine takeH 5 (v := .int .i64 (I : Int)) rfl (by kernel_rfl) (by kernel_rfl) (by kernel_rfl) (fun _ _ _ h => h) rfl (fun wx hSx => ?_) S1 ?_
    · go_simp
    try simp only [Act.put, List.setIfInBounds_toArray, List.set_cons_zero, List.set_cons_succ]
    refine takeH 6 (v := .int .i64 A) rfl (by kernel_rfl) (by kernel_rfl) (by kernel_rfl) (fun _ _ _ h => h) rfl (fun wx hSx => ?_) S1 ?_
    · go_simp
    try simp only [Act.put, List.setIfInBounds_toArray, List.set_cons_zero, List.set_cons_succ]
    refine takeH 7 (v := .int .i64 O) rfl (by kernel_rfl) (by kernel_rfl) (by kernel_rfl) (fun _ _ _ h => h) rfl (fun wx hSx => ?_) S1 ?_
    · go_simp
    try simp only [Act.put, List.setIfInBounds_toArray, List.set_cons_zero, List.set_cons_succ]
    refine takeH 8 (v := .pointer (some ⟨zb, 0, none⟩)) rfl (by kernel_rfl) (by kernel_rfl) (by kernel_rfl) (fun _ _ _ h => h) rfl (fun wx hSx => ?_) S1 ?_
    · go_simp
    try simp only [Act.put, List.setIfInBounds_toArray, List.set_cons_zero, List.set_cons_succ]
    refine takeH 9 (v := .pointer (some ⟨zb, 0, none⟩)) rfl (by kernel_rfl) (by kernel_rfl) (by kernel_rfl) (fun _ _ _ h => h) rfl (fun wx hSx => ?_) S1 ?_
    · go_simp
    try simp only [Act.put, List.setIfInBounds_toArray, List.set_cons_zero, List.set_cons_succ]
    refine takeH 10 (v := .pointer (some ⟨zb, 3, none⟩)) rfl (by kernel_rfl) (by kernel_rfl) (by kernel_rfl) (fun _ _ _ h => h) rfl (fun wx hSx => ?_) S1 ?_
    · go_simp
    try simp only [Act.put, List.setIfInBounds_toArray, List.set_cons_zero, List.set_cons_succ]
    refine takeH 11 (v := .slice (some ⟨k, 0, none⟩) tn tk) rfl (by kernel_rfl) (by kernel_rfl) (by kernel_rfl) (fun _ _ _ h => h) rfl (fun wx hSx => ?_) S1 ?_
    · go_simp
    try simp only [Act.put, List.setIfInBounds_toArray, List.set_cons_zero, List.set_cons_succ]
    refine takeH 12 (v := .pointer (some ⟨zb, 0, none⟩)) rfl (by kernel_rfl) (by kernel_rfl) (by kernel_rfl) (fun _ _ _ h => h) rfl (fun wx hSx => ?_) S1 ?_
    · go_simp
    try simp only [Act.put, List.setIfInBounds_toArray, List.set_cons_zero, List.set_cons_succ]
    refine takeH 13 (v := .pointer (some ⟨zb, 0, none⟩)) rfl (by kernel_rfl) (by kernel_rfl) (by kernel_rfl) (fun _ _ _ h => h) rfl (fun wx hSx => ?_) S1 ?_
    · go_simp
    try simp only [Act.put, List.setIfInBounds_toArray, List.set_cons_zero, List.set_cons_succ]
    refine takeH 14 (v := .agg #[.int .i64 z.f, .int .i64 z.t, .slice (some ⟨g, 0, none⟩) n' cap, .slice (some ⟨k, 0, none⟩) tn tk]) rfl (by kernel_rfl) (by kernel_rfl) (by kernel_rfl) (fun _ _ _ h => h) rfl (fun wx hSx => ?_) S1 ?_
    · go_simp
    try simp only [Act.put, List.setIfInBounds_toArray, List.set_cons_zero, List.set_cons_succ]
    refine takeH 15 (v := .int .i64 A) rfl (by kernel_rfl) (by kernel_rfl) (by kernel_rfl) (fun _ _ _ h => h) rfl (fun wx hSx => ?_) S1 ?_
    · go_simp
    try simp only [Act.put, List.setIfInBounds_toArray, List.set_cons_zero, List.set_cons_succ]
    refine oneH 16 (by kernel_rfl) rfl rfl (fun K1 hK1 => ?_)
    go_simp
    refine (HG.out _ hBd).mono ?_
    rintro e w6 ⟨rfl, hb6⟩
    have hS6 := S0.below hb6
    refine hK1 _ _ hS6 ?_
    try simp only [Act.put, List.setIfInBounds_toArray, List.set_cons_zero, List.set_cons_succ]
    refine takeH 17 (v := .pointer (some ⟨k, K, none⟩)) rfl (by kernel_rfl) (by kernel_rfl) (by kernel_rfl) (fun _ _ _ h => h) rfl (fun wx hSx => ?_) hS6 ?_
    · go_simp
    try simp only [Act.put, List.setIfInBounds_toArray, List.set_cons_zero, List.set_cons_succ]
    refine takeH 18 (v := .int .i64 x) rfl (by kernel_rfl) (by kernel_rfl) (by kernel_rfl) (fun _ _ _ h => h) rfl (fun wx hSx => ?_) hS6 ?_
    · go_simp
    try simp only [Act.put, List.setIfInBounds_toArray, List.set_cons_zero, List.set_cons_succ]
    refine takeH 19 (v := .agg #[.int .i64 A, .int .i64 O, .int .i64 x]) rfl (by kernel_rfl) (by kernel_rfl) (by kernel_rfl) (fun _ _ _ h => h) rfl (fun wx hSx => ?_) hS6 ?_
    · go_simp
    try simp only [Act.put, List.setIfInBounds_toArray, List.set_cons_zero, List.set_cons_succ]
    refine oneH 20 (by kernel_rfl) rfl rfl (fun K2 hK2 => ?_)
    go_simp
    have hS6' := hS6.below (below_box w6 (.cells #[.int .i64 A, .int .i64 O, .int .i64 x] 63))
    refine hK2 _ _ hS6' ?_
    try simp only [Act.put, List.setIfInBounds_toArray, List.set_cons_zero, List.set_cons_succ]
    refine oneH 21 (by kernel_rfl) rfl rfl (fun K3 hK3 => ?_)
    go_simp
    refine (HI.out _ hb6).mono ?_
    rintro e w7 ⟨g', cap', rfl, ow7, hb7, hg7⟩
    have B7 := ((B5.below hb6).below (below_box w6 (.cells #[.int .i64 A, .int .i64 O, .int .i64 x] 63))).but hb7 (Ne.symm Z2.gz)
    have f2 := B7.c2
    have f2z := B7.z2
    have hS7 := hS6'.but hb7 gab2 (Ne.symm Z2.gz) (Ne.symm Z2.gk)
    refine hK3 _ _ hS7 ?_
    try simp only [Act.put, List.setIfInBounds_toArray, List.set_cons_zero, List.set_cons_succ]
    refine takeH 22 (v := .pointer (some ⟨zb, 0, none⟩)) rfl (by kernel_rfl) (by kernel_rfl) (by kernel_rfl) (fun _ _ _ h => h) rfl (fun wx hSx => ?_) hS7 ?_
    · go_simp
    try simp only [Act.put, List.setIfInBounds_toArray, List.set_cons_zero, List.set_cons_succ]
    refine takeH 23 (v := .pointer (some ⟨zb, 2, none⟩)) rfl (by kernel_rfl) (by kernel_rfl) (by kernel_rfl) (fun _ _ _ h => h) rfl (fun wx hSx => ?_) hS7 ?_
    · go_simp
    try simp only [Act.put, List.setIfInBounds_toArray, List.set_cons_zero, List.set_cons_succ]
    refine wpAnyH_done (by kernel_rfl) ?_ _
    show Oper.wp _ _ _ _ _ _
    all_goals
      have typ7 := own_but (owns_below (owns_below typ5 hb6 (Nat.le_refl _)) (below_box w6 (.cells #[.int .i64 A, .int .i64 O, .int .i64 x] 63)) (Nat.le_refl _)) hb7 (Ne.symm Z2.gk)
      have hs6 := hb6.size
      have hs7 : w6.heap.size + 1 ≤ w7.heap.size := by have := hb7.size; simpa using this
      have hg7' : g' = g ∨ w6.heap.size + 1 ≤ g' := by simpa using hg7
      have hbt : But zb w7 (w7.setCell ⟨zb, 2, none⟩ (.slice (some ⟨g', 0, none⟩) (n' + 1) cap')) := (But.refl _ _).setCell _
      have hgz' : g' ≠ zb := by rcases hg7' with h | h; rw [h]; exact Z2.gz; omega
      have hgk' : g' ≠ k := by rcases hg7' with h | h; rw [h]; exact Z2.gk; omega
      have ZF : Zo (w7.setCell ⟨zb, 2, none⟩ (.slice (some ⟨g', 0, none⟩) (n' + 1) cap')) base zb g' (n' + 1) cap' k tn tk ⟨z.f, z.t, insB L I ⟨A, O, x⟩, z.types⟩ := ⟨B7.set2 _, own_but ow7 hbt hgz', own_but typ7 hbt Z2.kz, hgz', Z2.kz, hgk'⟩
      have hU : Bu2 g zb w (w7.setCell ⟨zb, 2, none⟩ (.slice (some ⟨g', 0, none⟩) (n' + 1) cap')) := (((hU5.trans (.of_below hb6)).trans (.of_below (below_box w6 (.cells #[.int .i64 A, .int .i64 O, .int .i64 x] 63)))).trans (.of_but_g hb7)).trans (.of_but_z hbt)
      have hgF : g' = g ∨ w.heap.size ≤ g' := by rcases hg7' with h | h; exact .inl h; exact .inr (by omega)
      clear hS6 hS6' hS7 HG HI m1 m2 m3 m4 m5 m6 S0 S1 B5 own5 typ5 c0 c1 c2 c3
      go_wp2
      go_ret
      rw [HADD.out]
      exact ⟨rfl, g', n' + 1, cap', ZF, hgF, hU⟩
  · have hI1 : ∀ j, j < n' → ¬ (⟨A, O, x⟩ : Bk).a < (L.getD j .zero).a := fun j hj => of_decide_eq_false (hi1 j (by omega))
    have hI2 : n' < L.length → (⟨A, O, x⟩ : Bk).a < (L.getD n' .zero).a := fun h => by omega
    clear hi1
    have hKn : K < tn := by omega
    have hKi : (K : Int) < (tn : Int) := by omega
    have c0 := B5.c0
    have c1 := B5.c1
    have c2 := B5.c2
    have c3 := B5.c3
    have z2 := B5.z2
    have hcx : W5.cell? ⟨k, K, none⟩ = some (.int .i64 x) := by
      have h := typ5.cellAt K (by omega)
      rw [vals_get, List.getElem?_eq_getElem (by omega)] at h
      rw [h, ← hx, List.getD_eq_getElem?_getD, List.getElem?_eq_getElem (by omega)]
      rfl
    have S0 : PutF w.heap.size zb k K g n' cap z.f z.t A x (.slice (some ⟨k, 0, none⟩) tn tk) W5 := ⟨at5, c0, c1, c2, c3, hcx⟩
    have S1 : PutF w.heap.size zb k K g n' cap z.f z.t A x (.slice (some ⟨k, 0, none⟩) tn tk) { W5 with drawn := W5.drawn + 1 } := S0.below (Below.refl _ _).drew
    have m1 : ∀ wx, PutF w.heap.size zb k K g n' cap z.f z.t A x (.slice (some ⟨k, 0, none⟩) tn tk) wx → wx.cell? ⟨w.heap.size, 0, none⟩ = some (.int .i64 A) := fun wx h => h.a
    have m2 : ∀ wx, PutF w.heap.size zb k K g n' cap z.f z.t A x (.slice (some ⟨k, 0, none⟩) tn tk) wx → wx.cell? ⟨zb, 0, none⟩ = some (.int .i64 z.f) := fun wx h => h.c0
    have m3 : ∀ wx, PutF w.heap.size zb k K g n' cap z.f z.t A x (.slice (some ⟨k, 0, none⟩) tn tk) wx → wx.cell? ⟨zb, 1, none⟩ = some (.int .i64 z.t) := fun wx h => h.c1
    have m4 : ∀ wx, PutF w.heap.size zb k K g n' cap z.f z.t A x (.slice (some ⟨k, 0, none⟩) tn tk) wx → wx.cell? ⟨zb, 2, none⟩ = some (.slice (some ⟨g, 0, none⟩) n' cap) := fun wx h => h.c2
    have m5 : ∀ wx, PutF w.heap.size zb k K g n' cap z.f z.t A x (.slice (some ⟨k, 0, none⟩) tn tk) wx → wx.cell? ⟨zb, 3, none⟩ = some (.slice (some ⟨k, 0, none⟩) tn tk) := fun wx h => h.c3
    have m6 : ∀ wx, PutF w.heap.size zb k K g n' cap z.f z.t A x (.slice (some ⟨k, 0, none⟩) tn tk) wx → wx.cell? ⟨k, K, none⟩ = some (.int .i64 x) := fun wx h => h.e
    have HG : Hid (∀ V, Below W5.heap.size W5 V → Calls Try.prog 95 #[.agg #[.int .i64 z.f, .int .i64 z.t, .slice (some ⟨g, 0, none⟩) n' cap, .slice (some ⟨k, 0, none⟩) tn tk], .int .i64 A] V fun e w' => e = .returned (.int .i64 K) ∧ Below W5.heap.size W5 w') := fun V hV => by
      rw [← hK]
      refine (group_any V z.f z.t _ _ n' cap tn tk A n1 a4 (by omega)).mono ?_
      rintro e w' ⟨rfl, hb⟩
      exact ⟨rfl, hV.trans (hb.mono hV.size)⟩
    have HI : Hid (∀ w6, Below W5.heap.size W5 w6 → Calls Try.prog 94 #[.slice (some ⟨g, 0, none⟩) n' cap, .int .i64 (n' : Int), .slice (some ⟨w6.heap.size, 0, none⟩) 1 1] (w6.alloc (.cells #[.int .i64 A, .int .i64 O, .int .i64 x] 63)) fun e w7 => RetRow (w6.alloc (.cells #[.int .i64 A, .int .i64 O, .int .i64 x] 63)) w7 base g (n' + 1) (insB L n' ⟨A, O, x⟩) e) := fun w6 hb6 => by
      refine bIns_any _ base g n' cap n' w6.heap.size L ⟨A, O, x⟩ (by omega) (by omega) (owns_below (owns_below own5 hb6 (Nat.le_refl _)) (below_box _ _) (Nat.le_refl _)) (heap_alloc_new _ _) (by have := hb6.size; omega)
    have HADD : Hid (backZ z a o = ⟨z.f, z.t, insB L n' ⟨A, O, x⟩, z.types⟩) := by
      show _ = _
      rw [HR.out, hK, show ((K : Int)).toNat = K from rfl, hx, addB_at (by omega) hI1 hI2]
    clear hI1 hI2 HR hK hx
    have hBd := (Below.refl W5.heap.size W5).drew
    go_wp2_with fail
    refine wp_region_peel (S := fun wx => PutF w.heap.size zb k K g n' cap z.f z.t A x (.slice (some ⟨k, 0, none⟩) tn tk) wx) 24 _ (by kernel_rfl) (by kernel_rfl) rfl ?_
    simp only [List.take_succ_cons, List.take_zero]
    refine takeH 0 (v := .pointer (some ⟨zb, 0, none⟩)) rfl (by kernel_rfl) (by kernel_rfl) (by kernel_rfl) (fun _ _ _ h => h) rfl (fun wx hSx => ?_) S1 ?_
    · go_simp
    try simp only [Act.put, List.setIfInBounds_toArray, List.set_cons_zero, List.set_cons_succ]
    refine takeH 1 (v := .pointer (some ⟨zb, 0, none⟩)) rfl (by kernel_rfl) (by kernel_rfl) (by kernel_rfl) (fun _ _ _ h => h) rfl (fun wx hSx => ?_) S1 ?_
    · go_simp
    try simp only [Act.put, List.setIfInBounds_toArray, List.set_cons_zero, List.set_cons_succ]
    refine takeH 2 (v := .pointer (some ⟨zb, 0, none⟩)) rfl (by kernel_rfl) (by kernel_rfl) (by kernel_rfl) (fun _ _ _ h => h) rfl (fun wx hSx => ?_) S1 ?_
    · go_simp
    try simp only [Act.put, List.setIfInBounds_toArray, List.set_cons_zero, List.set_cons_succ]
    refine takeH 3 (v := .pointer (some ⟨zb, 2, none⟩)) rfl (by kernel_rfl) (by kernel_rfl) (by kernel_rfl) (fun _ _ _ h => h) rfl (fun wx hSx => ?_) S1 ?_
    · go_simp
    try simp only [Act.put, List.setIfInBounds_toArray, List.set_cons_zero, List.set_cons_succ]
    refine takeH 4 (v := .slice (some ⟨g, 0, none⟩) n' cap) rfl (by kernel_rfl) (by kernel_rfl) (by kernel_rfl) (fun _ _ _ h => h) rfl (fun wx hSx => ?_) S1 ?_
    · go_simp
    try simp only [Act.put, List.setIfInBounds_toArray, List.set_cons_zero, List.set_cons_succ]
    refine takeH 5 (v := .int .i64 (n' : Int)) rfl (by kernel_rfl) (by kernel_rfl) (by kernel_rfl) (fun _ _ _ h => h) rfl (fun wx hSx => ?_) S1 ?_
    · go_simp
    try simp only [Act.put, List.setIfInBounds_toArray, List.set_cons_zero, List.set_cons_succ]
    refine takeH 6 (v := .int .i64 A) rfl (by kernel_rfl) (by kernel_rfl) (by kernel_rfl) (fun _ _ _ h => h) rfl (fun wx hSx => ?_) S1 ?_
    · go_simp
    try simp only [Act.put, List.setIfInBounds_toArray, List.set_cons_zero, List.set_cons_succ]
    refine takeH 7 (v := .int .i64 O) rfl (by kernel_rfl) (by kernel_rfl) (by kernel_rfl) (fun _ _ _ h => h) rfl (fun wx hSx => ?_) S1 ?_
    · go_simp
    try simp only [Act.put, List.setIfInBounds_toArray, List.set_cons_zero, List.set_cons_succ]
    refine takeH 8 (v := .pointer (some ⟨zb, 0, none⟩)) rfl (by kernel_rfl) (by kernel_rfl) (by kernel_rfl) (fun _ _ _ h => h) rfl (fun wx hSx => ?_) S1 ?_
    · go_simp
    try simp only [Act.put, List.setIfInBounds_toArray, List.set_cons_zero, List.set_cons_succ]
    refine takeH 9 (v := .pointer (some ⟨zb, 0, none⟩)) rfl (by kernel_rfl) (by kernel_rfl) (by kernel_rfl) (fun _ _ _ h => h) rfl (fun wx hSx => ?_) S1 ?_
    · go_simp
    try simp only [Act.put, List.setIfInBounds_toArray, List.set_cons_zero, List.set_cons_succ]
    refine takeH 10 (v := .pointer (some ⟨zb, 3, none⟩)) rfl (by kernel_rfl) (by kernel_rfl) (by kernel_rfl) (fun _ _ _ h => h) rfl (fun wx hSx => ?_) S1 ?_
    · go_simp
    try simp only [Act.put, List.setIfInBounds_toArray, List.set_cons_zero, List.set_cons_succ]
    refine takeH 11 (v := .slice (some ⟨k, 0, none⟩) tn tk) rfl (by kernel_rfl) (by kernel_rfl) (by kernel_rfl) (fun _ _ _ h => h) rfl (fun wx hSx => ?_) S1 ?_
    · go_simp
    try simp only [Act.put, List.setIfInBounds_toArray, List.set_cons_zero, List.set_cons_succ]
    refine takeH 12 (v := .pointer (some ⟨zb, 0, none⟩)) rfl (by kernel_rfl) (by kernel_rfl) (by kernel_rfl) (fun _ _ _ h => h) rfl (fun wx hSx => ?_) S1 ?_
    · go_simp
    try simp only [Act.put, List.setIfInBounds_toArray, List.set_cons_zero, List.set_cons_succ]
    refine takeH 13 (v := .pointer (some ⟨zb, 0, none⟩)) rfl (by kernel_rfl) (by kernel_rfl) (by kernel_rfl) (fun _ _ _ h => h) rfl (fun wx hSx => ?_) S1 ?_
    · go_simp
    try simp only [Act.put, List.setIfInBounds_toArray, List.set_cons_zero, List.set_cons_succ]
    refine takeH 14 (v := .agg #[.int .i64 z.f, .int .i64 z.t, .slice (some ⟨g, 0, none⟩) n' cap, .slice (some ⟨k, 0, none⟩) tn tk]) rfl (by kernel_rfl) (by kernel_rfl) (by kernel_rfl) (fun _ _ _ h => h) rfl (fun wx hSx => ?_) S1 ?_
    · go_simp
    try simp only [Act.put, List.setIfInBounds_toArray, List.set_cons_zero, List.set_cons_succ]
    refine takeH 15 (v := .int .i64 A) rfl (by kernel_rfl) (by kernel_rfl) (by kernel_rfl) (fun _ _ _ h => h) rfl (fun wx hSx => ?_) S1 ?_
    · go_simp
    try simp only [Act.put, List.setIfInBounds_toArray, List.set_cons_zero, List.set_cons_succ]
    refine oneH 16 (by kernel_rfl) rfl rfl (fun K1 hK1 => ?_)
    go_simp
    refine (HG.out _ hBd).mono ?_
    rintro e w6 ⟨rfl, hb6⟩
    have hS6 := S0.below hb6
    refine hK1 _ _ hS6 ?_
    try simp only [Act.put, List.setIfInBounds_toArray, List.set_cons_zero, List.set_cons_succ]
    refine takeH 17 (v := .pointer (some ⟨k, K, none⟩)) rfl (by kernel_rfl) (by kernel_rfl) (by kernel_rfl) (fun _ _ _ h => h) rfl (fun wx hSx => ?_) hS6 ?_
    · go_simp
    try simp only [Act.put, List.setIfInBounds_toArray, List.set_cons_zero, List.set_cons_succ]
    refine takeH 18 (v := .int .i64 x) rfl (by kernel_rfl) (by kernel_rfl) (by kernel_rfl) (fun _ _ _ h => h) rfl (fun wx hSx => ?_) hS6 ?_
    · go_simp
    try simp only [Act.put, List.setIfInBounds_toArray, List.set_cons_zero, List.set_cons_succ]
    refine takeH 19 (v := .agg #[.int .i64 A, .int .i64 O, .int .i64 x]) rfl (by kernel_rfl) (by kernel_rfl) (by kernel_rfl) (fun _ _ _ h => h) rfl (fun wx hSx => ?_) hS6 ?_
    · go_simp
    try simp only [Act.put, List.setIfInBounds_toArray, List.set_cons_zero, List.set_cons_succ]
    refine oneH 20 (by kernel_rfl) rfl rfl (fun K2 hK2 => ?_)
    go_simp
    have hS6' := hS6.below (below_box w6 (.cells #[.int .i64 A, .int .i64 O, .int .i64 x] 63))
    refine hK2 _ _ hS6' ?_
    try simp only [Act.put, List.setIfInBounds_toArray, List.set_cons_zero, List.set_cons_succ]
    refine oneH 21 (by kernel_rfl) rfl rfl (fun K3 hK3 => ?_)
    go_simp
    refine (HI.out _ hb6).mono ?_
    rintro e w7 ⟨g', cap', rfl, ow7, hb7, hg7⟩
    have B7 := ((B5.below hb6).below (below_box w6 (.cells #[.int .i64 A, .int .i64 O, .int .i64 x] 63))).but hb7 (Ne.symm Z2.gz)
    have f2 := B7.c2
    have f2z := B7.z2
    have hS7 := hS6'.but hb7 gab2 (Ne.symm Z2.gz) (Ne.symm Z2.gk)
    refine hK3 _ _ hS7 ?_
    try simp only [Act.put, List.setIfInBounds_toArray, List.set_cons_zero, List.set_cons_succ]
    refine takeH 22 (v := .pointer (some ⟨zb, 0, none⟩)) rfl (by kernel_rfl) (by kernel_rfl) (by kernel_rfl) (fun _ _ _ h => h) rfl (fun wx hSx => ?_) hS7 ?_
    · go_simp
    try simp only [Act.put, List.setIfInBounds_toArray, List.set_cons_zero, List.set_cons_succ]
    refine takeH 23 (v := .pointer (some ⟨zb, 2, none⟩)) rfl (by kernel_rfl) (by kernel_rfl) (by kernel_rfl) (fun _ _ _ h => h) rfl (fun wx hSx => ?_) hS7 ?_
    · go_simp
    try simp only [Act.put, List.setIfInBounds_toArray, List.set_cons_zero, List.set_cons_succ]
    refine wpAnyH_done (by kernel_rfl) ?_ _
    show Oper.wp _ _ _ _ _ _
    all_goals
      have typ7 := own_but (owns_below (owns_below typ5 hb6 (Nat.le_refl _)) (below_box w6 (.cells #[.int .i64 A, .int .i64 O, .int .i64 x] 63)) (Nat.le_refl _)) hb7 (Ne.symm Z2.gk)
      have hs6 := hb6.size
      have hs7 : w6.heap.size + 1 ≤ w7.heap.size := by have := hb7.size; simpa using this
      have hg7' : g' = g ∨ w6.heap.size + 1 ≤ g' := by simpa using hg7
      have hbt : But zb w7 (w7.setCell ⟨zb, 2, none⟩ (.slice (some ⟨g', 0, none⟩) (n' + 1) cap')) := (But.refl _ _).setCell _
      have hgz' : g' ≠ zb := by rcases hg7' with h | h; rw [h]; exact Z2.gz; omega
      have hgk' : g' ≠ k := by rcases hg7' with h | h; rw [h]; exact Z2.gk; omega
      have ZF : Zo (w7.setCell ⟨zb, 2, none⟩ (.slice (some ⟨g', 0, none⟩) (n' + 1) cap')) base zb g' (n' + 1) cap' k tn tk ⟨z.f, z.t, insB L n' ⟨A, O, x⟩, z.types⟩ := ⟨B7.set2 _, own_but ow7 hbt hgz', own_but typ7 hbt Z2.kz, hgz', Z2.kz, hgk'⟩
      have hU : Bu2 g zb w (w7.setCell ⟨zb, 2, none⟩ (.slice (some ⟨g', 0, none⟩) (n' + 1) cap')) := (((hU5.trans (.of_below hb6)).trans (.of_below (below_box w6 (.cells #[.int .i64 A, .int .i64 O, .int .i64 x] 63)))).trans (.of_but_g hb7)).trans (.of_but_z hbt)
      have hgF : g' = g ∨ w.heap.size ≤ g' := by rcases hg7' with h | h; exact .inl h; exact .inr (by omega)
      clear hS6 hS6' hS7 HG HI m1 m2 m3 m4 m5 m6 S0 S1 B5 own5 typ5 c0 c1 c2 c3
      go_wp2
      go_ret
      rw [HADD.out]
      exact ⟨rfl, g', n' + 1, cap', ZF, hgF, hU⟩

end Go.Proofs.Ytbjlbmofdnkmiaa

/-
  OWN TEXT. What a function knows that was handed a zone and answers one.
-/
namespace Go.Proofs.Ytbjlbmofdnkmiaa
open Go Go.RowKit Go.Proofs.Ytbjlbmofdnkmiaa.Kit

/-- What a function knows that was handed a zone and answers one: both boxes, the lists. -/
structure CbI (w : World) (fo : Option Addr) (fn fc : Nat) (to_ : Option Addr) (tn tc : Nat) (z : Zn) (W : World) : Prop where
  b : Below w.heap.size w W
  box : ZBox W w.heap.size (.int .i64 z.f) (.int .i64 z.t) (.slice fo fn fc) (.slice to_ tn tc)
  zn : ZnAt W fo fn to_ tn z
  res : Res4 W (w.heap.size + 1)
  size : w.heap.size + 2 ≤ W.heap.size
theorem CbI.step {w : World} {fo : Option Addr} {fn fc : Nat} {to_ : Option Addr} {tn tc : Nat} {z : Zn} {W W' : World} (h : CbI w fo fn fc to_ tn tc z W) (hb : Below W.heap.size W W') : CbI w fo fn fc to_ tn tc z W' :=
  ⟨h.b.trans (hb.mono h.b.size), h.box.below hb, h.zn.below hb, h.res.below hb, Nat.le_trans h.size hb.size⟩
theorem cbI_first (w : World) (fo : Option Addr) (fn fc : Nat) (to_ : Option Addr) (tn tc : Nat) (z : Zn) (h : ZnAt w fo fn to_ tn z) : CbI w fo fn fc to_ tn tc z ((w.alloc (.cells #[.int .i64 z.f, .int .i64 z.t, .slice fo fn fc, .slice to_ tn tc] 44)).alloc (.cells #[.int .i64 0, .int .i64 0, .slice none 0 0, .slice none 0 0] 44)) := by
  have hb2 : Below w.heap.size w ((w.alloc (.cells #[.int .i64 z.f, .int .i64 z.t, .slice fo fn fc, .slice to_ tn tc] 44)).alloc (.cells #[.int .i64 0, .int .i64 0, .slice none 0 0, .slice none 0 0] 44)) := ((Below.refl _ _).alloc (Nat.le_refl _) _).alloc (by simp) _
  refine ⟨hb2, (zbox_new w _ _ _ _ _).below (below_box _ _), h.below hb2, ?_, by simp⟩
  have := zbox_new (w.alloc (.cells #[.int .i64 z.f, .int .i64 z.t, .slice fo fn fc, .slice to_ tn tc] 44)) (.int .i64 0) (.int .i64 0) (.slice none 0 0) (.slice none 0 0) 44
  have h2 := this.res
  simpa using h2

/-- The copy in a variable of its own. -/
theorem zo_new {w3 : World} {B g k fn tn : Nat} {z : Zn} (o1 : w3.ownsRow B 63 3 (.slice (some ⟨g, 0, none⟩) fn fn) fn (bvals z.free)) (o2 : w3.ownsRow B 3 1 (.slice (some ⟨k, 0, none⟩) tn tn) tn (vals z.types)) (hgk : g ≠ k) :
    Zo (w3.alloc (.cells #[.int .i64 z.f, .int .i64 z.t, .slice (some ⟨g, 0, none⟩) fn fn, .slice (some ⟨k, 0, none⟩) tn tn] 44)) B w3.heap.size g fn fn k tn tn z := by
  have hbx := below_box w3 (.cells #[.int .i64 z.f, .int .i64 z.t, .slice (some ⟨g, 0, none⟩) fn fn, .slice (some ⟨k, 0, none⟩) tn tn] 44)
  have h1 : g < w3.heap.size := (o1.lt _ rfl).2
  have h2 : k < w3.heap.size := (o2.lt _ rfl).2
  exact ⟨zbox_new _ _ _ _ _ _, owns_below o1 hbx (Nat.le_refl _), owns_below o2 hbx (Nat.le_refl _), by omega, by omega, hgk⟩

end Go.Proofs.Ytbjlbmofdnkmiaa

/-
  OWN TEXT. Contracts of the code: buddy.Back.
-/
namespace Go.Proofs.Ytbjlbmofdnkmiaa
open Go Go.RowKit Go.Proofs.Ytbjlbmofdnkmiaa.Kit

set_option maxHeartbeats 1000000 in
theorem zBack_no (w : World) (fo : Option Addr) (fn fc : Nat) (to_ : Option Addr) (tn tc : Nat) (z : Zn) (a o : Int) (h : ZnAt w fo fn to_ tn z) (hf : ZFits z) (hM : ¬ ZMay z) :
    Calls Try.prog 84 #[.agg #[.int .i64 z.f, .int .i64 z.t, .slice fo fn fc, .slice to_ tn tc], .int .i64 a, .int .i64 o] w fun e w' => RetNone 8 e ∧ Below w.heap.size w w' := by
  have I0 := cbI_first w fo fn fc to_ tn tc z h
  have c0 := I0.box.c0
  have c1 := I0.box.c1
  have c2 := I0.box.c2
  have c3 := I0.box.c3
  clear h
  go_enter Try.func84, Try.ntmps84
  go_wp2_with fail
  go_at_call 63
  refine (zCheck_no _ fo fn fc to_ tn tc z I0.zn hf hM).mono ?_
  rintro e w1 ⟨rfl, hb⟩
  have I1 := I0.step hb
  have R1 := I1.res
  obtain ⟨⟨x0, d0⟩, ⟨x1, d1⟩, ⟨x2, d2⟩, ⟨x3, d3⟩, z0, z1, z2, z3⟩ := id R1
  have hB := I1.b
  have hs := I1.size
  clear I0 I1 hb hM hf c0 c1 c2 c3
  go_wp2
  obtain ⟨k0, k1, k2, k3⟩ := res4 R1 (.int .i64 0) (.int .i64 0) (.slice none 0 0) (.slice none 0 0)
  have hbt := but4 w1 (w.heap.size + 1) (.int .i64 0) (.int .i64 0) (.slice none 0 0) (.slice none 0 0)
  exact bodyPost_ret (v := .tuple #[.agg #[.int .i64 0, .int .i64 0, .slice none 0 0, .slice none 0 0], .int .i64 8]) (by simp [results, Try.results84, go_sem, k0, k1, k2, k3]) rfl ⟨rfl, hB.trans (hbt.below (by omega) (by omega))⟩

set_option maxHeartbeats 1000000 in
theorem zBack_range (w : World) (fo : Option Addr) (fn fc : Nat) (to_ : Option Addr) (tn tc : Nat) (z : Zn) (a o : Int) (h : ZnAt w fo fn to_ tn z) (_wa : (Lit.int .i64 a).wf = true) (_wo : (Lit.int .i64 o).wf = true) (hM : ZMay z) (hbk : ¬ blkIn z.f z.t a o) :
    Calls Try.prog 84 #[.agg #[.int .i64 z.f, .int .i64 z.t, .slice fo fn fc, .slice to_ tn tc], .int .i64 a, .int .i64 o] w fun e w' => RetNone 1 e ∧ Below w.heap.size w w' := by
  have I0 := cbI_first w fo fn fc to_ tn tc z h
  have c0 := I0.box.c0
  have c1 := I0.box.c1
  have c2 := I0.box.c2
  have c3 := I0.box.c3
  have hB2 : Hid (blkB z.f z.t a o = false) := by
    show _ = _
    cases hb : blkB z.f z.t a o with
    | false => rfl
    | true => exact absurd ((blkB_iff z.f z.t a o).1 hb) hbk
  clear h hbk
  go_enter Try.func84, Try.ntmps84
  go_wp2_with fail
  go_at_call 63
  refine (zCheck_ok _ fo fn fc to_ tn tc z I0.zn hM).mono ?_
  rintro e w1 ⟨rfl, hb⟩
  have I1 := I0.step hb
  clear I0 hb c0 c1 c2 c3
  have c0 := I1.box.c0
  have c1 := I1.box.c1
  have c2 := I1.box.c2
  have c3 := I1.box.c3
  go_wp2_with fail
  go_at_call 97
  refine (blkMay_any _ z.f z.t fo to_ fn fc tn tc a o hM.new).mono ?_
  rintro e w2 ⟨rfl, hb2⟩
  rw [hB2.out]
  have I2 := I1.step hb2
  have R1 := I2.res
  obtain ⟨⟨x0, d0⟩, ⟨x1, d1⟩, ⟨x2, d2⟩, ⟨x3, d3⟩, z0, z1, z2, z3⟩ := id R1
  have hB := I2.b
  have hs := I2.size
  clear I1 I2 hb2 hM c0 c1 c2 c3
  go_wp2
  obtain ⟨k0, k1, k2, k3⟩ := res4 R1 (.int .i64 0) (.int .i64 0) (.slice none 0 0) (.slice none 0 0)
  have hbt := but4 w2 (w.heap.size + 1) (.int .i64 0) (.int .i64 0) (.slice none 0 0) (.slice none 0 0)
  exact bodyPost_ret (v := .tuple #[.agg #[.int .i64 0, .int .i64 0, .slice none 0 0, .slice none 0 0], .int .i64 1]) (by simp [results, Try.results84, go_sem, k0, k1, k2, k3]) rfl ⟨rfl, hB.trans (hbt.below (by omega) (by omega))⟩

set_option maxHeartbeats 2000000 in
theorem zBack_twice (w : World) (fo : Option Addr) (fn fc : Nat) (to_ : Option Addr) (tn tc : Nat) (z : Zn) (a o : Int) (h : ZnAt w fo fn to_ tn z) (hM : ZMay z) (hA : blkIn z.f z.t a o) (hv : ovlP z.free a o) :
    Calls Try.prog 84 #[.agg #[.int .i64 z.f, .int .i64 z.t, .slice fo fn fc, .slice to_ tn tc], .int .i64 a, .int .i64 o] w fun e w' => RetNone 5 e ∧ Below w.heap.size w w' := by
  have I0 := cbI_first w fo fn fc to_ tn tc z h
  have c0 := I0.box.c0
  have c1 := I0.box.c1
  have c2 := I0.box.c2
  have c3 := I0.box.c3
  have hB2 : Hid (blkB z.f z.t a o = true) := (blkB_iff z.f z.t a o).2 hA
  clear h
  go_enter Try.func84, Try.ntmps84
  go_wp2_with fail
  go_at_call 63
  refine (zCheck_ok _ fo fn fc to_ tn tc z I0.zn hM).mono ?_
  rintro e w1 ⟨rfl, hb⟩
  have I1 := I0.step hb
  clear I0 hb c0 c1 c2 c3
  have c0 := I1.box.c0
  have c1 := I1.box.c1
  have c2 := I1.box.c2
  have c3 := I1.box.c3
  go_wp2_with fail
  go_at_call 97
  refine (blkMay_any _ z.f z.t fo to_ fn fc tn tc a o hM.new).mono ?_
  rintro e w2 ⟨rfl, hb2⟩
  rw [hB2.out]
  have I2 := I1.step hb2
  clear I1 hb2 c0 c1 c2 c3
  have c0 := I2.box.c0
  have c1 := I2.box.c1
  have c2 := I2.box.c2
  have c3 := I2.box.c3
  go_wp2_with fail
  go_at_call 41
  refine (zCopy_own _ fo fn fc to_ tn tc z I2.zn).mono ?_
  rintro e w3 ⟨g, k, rfl, o1, o2, hgk, hb3⟩
  have I3 := I2.step hb3
  have Z4 := zo_new o1 o2 hgk
  have hbx := below_box w3 (.cells #[.int .i64 z.f, .int .i64 z.t, .slice (some ⟨g, 0, none⟩) fn fn, .slice (some ⟨k, 0, none⟩) tn tn] 44)
  have I4 := I3.step hbx
  have HP := put_twice _ _ w3.heap.size g fn fn k tn tn z a o Z4 hM hA hv
  clear I2 I3 hb3 c0 c1 c2 c3 o1 o2 hbx
  go_wp2_with fail
  go_at_call 75
  refine HP.mono ?_
  rintro e w5 ⟨rfl, hb5⟩
  have I5 := I4.step hb5
  have R1 := I5.res
  obtain ⟨⟨x0, d0⟩, ⟨x1, d1⟩, ⟨x2, d2⟩, ⟨x3, d3⟩, z0, z1, z2, z3⟩ := id R1
  have hB := I5.b
  have hs := I5.size
  clear I4 I5 hb5 hM HP Z4
  go_wp2
  obtain ⟨k0, k1, k2, k3⟩ := res4 R1 (.int .i64 0) (.int .i64 0) (.slice none 0 0) (.slice none 0 0)
  have hbt := but4 w5 (w.heap.size + 1) (.int .i64 0) (.int .i64 0) (.slice none 0 0) (.slice none 0 0)
  exact bodyPost_ret (v := .tuple #[.agg #[.int .i64 0, .int .i64 0, .slice none 0 0, .slice none 0 0], .int .i64 5]) (by simp [results, Try.results84, go_sem, k0, k1, k2, k3]) rfl ⟨rfl, hB.trans (hbt.below (by omega) (by omega))⟩

theorem backGo_len (n : Nat) (l : List Bk) (a o : Int) : (backGo n l a o).1.length ≤ l.length := by
  induction n generalizing l a o with
  | zero => exact Nat.le_refl _
  | succ n ih =>
    unfold backGo
    split
    · exact Nat.le_trans (ih _ _ _) (dropB_len _ _ _)
    · exact Nat.le_refl _
theorem backZ_len (z : Zn) (a o : Int) : (backZ z a o).free.length ≤ z.free.length + 1 := by
  show (addB _ _).length ≤ _
  rw [addB_len]
  have := backGo_len (4 - o).toNat z.free a o
  omega

set_option maxHeartbeats 2000000 in
theorem zBack_ok (w : World) (fo : Option Addr) (fn fc : Nat) (to_ : Option Addr) (tn tc : Nat) (z : Zn) (a o : Int) (h : ZnAt w fo fn to_ tn z) (hM : ZMay z) (hA : blkIn z.f z.t a o) (hv : ¬ ovlP z.free a o) :
    Calls Try.prog 84 #[.agg #[.int .i64 z.f, .int .i64 z.t, .slice fo fn fc, .slice to_ tn tc], .int .i64 a, .int .i64 o] w fun e w' => RetZone w.heap.size w' (backZ z a o) e ∧ Below w.heap.size w w' := by
  have I0 := cbI_first w fo fn fc to_ tn tc z h
  have c0 := I0.box.c0
  have c1 := I0.box.c1
  have c2 := I0.box.c2
  have c3 := I0.box.c3
  have hB2 : Hid (blkB z.f z.t a o = true) := (blkB_iff z.f z.t a o).2 hA
  have htr := h.types.reach
  have hbl := may_len hM
  obtain ⟨Y, hY⟩ : ∃ Y, backZ z a o = Y := ⟨_, rfl⟩
  have hlenB : Y.free.length ≤ 257 := by rw [← hY]; have := backZ_len z a o; omega
  rw [hY]
  have HY : Hid _ := hY
  clear h hY
  go_enter Try.func84, Try.ntmps84
  go_wp2_with fail
  go_at_call 63
  refine (zCheck_ok _ fo fn fc to_ tn tc z I0.zn hM).mono ?_
  rintro e w1 ⟨rfl, hb⟩
  have I1 := I0.step hb
  clear I0 hb c0 c1 c2 c3
  have c0 := I1.box.c0
  have c1 := I1.box.c1
  have c2 := I1.box.c2
  have c3 := I1.box.c3
  go_wp2_with fail
  go_at_call 97
  refine (blkMay_any _ z.f z.t fo to_ fn fc tn tc a o hM.new).mono ?_
  rintro e w2 ⟨rfl, hb2⟩
  rw [hB2.out]
  have I2 := I1.step hb2
  clear I1 hb2 c0 c1 c2 c3
  have c0 := I2.box.c0
  have c1 := I2.box.c1
  have c2 := I2.box.c2
  have c3 := I2.box.c3
  go_wp2_with fail
  go_at_call 41
  refine (zCopy_own _ fo fn fc to_ tn tc z I2.zn).mono ?_
  rintro e w3 ⟨g, k, rfl, o1, o2, hgk, hb3⟩
  have I3 := I2.step hb3
  have hf1 := owns_fresh o1 _ rfl
  have hf2 := owns_fresh o2 _ rfl
  have Z4 := zo_new o1 o2 hgk
  have hbx := below_box w3 (.cells #[.int .i64 z.f, .int .i64 z.t, .slice (some ⟨g, 0, none⟩) fn fn, .slice (some ⟨k, 0, none⟩) tn tn] 44)
  have I4 := I3.step hbx
  have hs2 := I2.size
  have hs3 := I3.size
  have HP := put_ok _ _ w3.heap.size g fn fn k tn tn z a o Z4 hM hA hv
  have hgl := Z4.glt
  obtain ⟨W4, hW4⟩ : ∃ W4, w3.alloc (.cells #[.int .i64 z.f, .int .i64 z.t, .slice (some ⟨g, 0, none⟩) fn fn, .slice (some ⟨k, 0, none⟩) tn tn] 44) = W4 := ⟨_, rfl⟩
  rw [hW4] at I4 HP hgl
  have HW4 : Hid _ := hW4
  rw [HY.out] at HP
  dsimp only at hf1 hf2
  clear I2 I3 hb3 c0 c1 c2 c3 o1 o2 hbx Z4 hW4
  go_wp2_with (rw [HW4.out])
  go_at_call 75
  refine HP.mono ?_
  rintro e w5 ⟨rfl, g', n', cap', Z5, hg', hU⟩
  have hs4 := I4.size
  have R1 := hU.res I4.res (by omega) (by omega)
  have hB : Below w.heap.size w w5 := I4.b.trans (hU.below (by omega) (by omega) (by omega))
  obtain ⟨⟨x0, d0⟩, ⟨x1, d1⟩, ⟨x2, d2⟩, ⟨x3, d3⟩, z0, z1, z2, z3⟩ := id R1
  have y0 := Z5.box.c0
  have y1 := Z5.box.c1
  have y2 := Z5.box.c2
  have y3 := Z5.box.c3
  have hs5 := hU.size
  have hgB : w.heap.size + 2 ≤ g' := by rcases hg' with e | e <;> omega
  have B7 := blks_own Z5.own (by have := bowns_len Z5.own; omega)
  have N7 := nums_of_owns Z5.typ htr
  clear I4 HP HW4
  go_wp2
  obtain ⟨k0, k1, k2, k3⟩ := res4 R1 (.int .i64 Y.f) (.int .i64 Y.t) (.slice (some ⟨g', 0, none⟩) n' cap') (.slice (some ⟨k, 0, none⟩) tn tn)
  have hbt := but4 w5 (w.heap.size + 1) (.int .i64 Y.f) (.int .i64 Y.t) (.slice (some ⟨g', 0, none⟩) n' cap') (.slice (some ⟨k, 0, none⟩) tn tn)
  exact bodyPost_ret (v := .tuple #[.agg #[.int .i64 Y.f, .int .i64 Y.t, .slice (some ⟨g', 0, none⟩) n' cap', .slice (some ⟨k, 0, none⟩) tn tn], .int .i64 0]) (by simp [results, Try.results84, go_sem, k0, k1, k2, k3]) rfl ⟨⟨_, _, _, _, _, _, rfl, hbt.zn ⟨B7, N7⟩ (fun a ha => by cases ha; dsimp only; omega) (fun a ha => by cases ha; dsimp only; omega), fun a ha => by cases ha; dsimp only; omega, fun a ha => by cases ha; dsimp only; omega⟩, hB.trans (hbt.below (by omega) (by omega))⟩

end Go.Proofs.Ytbjlbmofdnkmiaa

/-
  OWN TEXT. Contracts of the code: pages.back (written by sxback.py).
-/
namespace Go.Proofs.Ytbjlbmofdnkmiaa
open Go Go.RowKit Go.Proofs.Ytbjlbmofdnkmiaa.Kit

set_option maxRecDepth 10000 in
set_option maxHeartbeats 4000000 in
theorem pBack_ok (w : World) (B gz hbk : Nat) (y : Hx) (p o : Int) (rh : w.heap[hbk]? = some (.cells #[.slice y.zo y.zn y.zc, .slice y.mo y.mn y.mc, .int .i64 y.cpus, .slice y.lo y.ln y.lc, .slice y.vo y.vn y.vc] 28 (0, 0))) (HY : HZ w B gz y) (hne : hbk ≠ gz) (hc : CanBack y.hp p o) :
    Calls Try.prog 70 #[.pointer (some ⟨hbk, 0, none⟩), .int .i64 p, .int .i64 o] w fun e w' => e = .returned (.int .i64 0) ∧ ∃ z, z.z = backZ (y.zs.getD (zIdx y.hp p) .zero).z p o ∧ HZ w' B gz (y.setZ (zIdx y.hp p) z) ∧ But gz w w' ∧ (∀ b, b < w.heap.size → Away b y → Away b (y.setZ (zIdx y.hp p) z)) := by
  have HY0 := HY.at_
  have hin : zIdx y.hp p < y.zn := by have := zIdx_lt y.hp p; have e : y.hp.zones.length = y.zs.length := (by show (y.zs.map _).length = _; rw [List.length_map]); have := hc.n; have := HY.at_.zones.len; omega
  have hzn : y.zn = 2 := by have e : y.hp.zones.length = y.zs.length := (by show (y.zs.map _).length = _; rw [List.length_map]); have := hc.n; have := HY.at_.zones.len; omega
  have hgz : gz < w.heap.size := HY.lt (by omega)
  have hM := hc.m
  have hA := hc.i
  have hv := hc.v
  rw [hp_zone] at hM hA hv
  have hrl := row_lt rh
  obtain ⟨i, hi⟩ : ∃ i, zIdx y.hp p = i := ⟨_, rfl⟩
  rw [hi] at hin hM hA hv
  have ez := HY.ez
  obtain ⟨gi, oi, zi, foi, fni, fci, toi, tni, tci, hai, c0i, c1i, c2i, c3i, hati, hXi⟩ := HY.at_.zones.at (i) (by omega)
  replace c0i := St.of c0i; replace c1i := St.of c1i; replace c2i := St.of c2i; replace c3i := St.of c3i
  have hXe : (y.zs.getD i .zero).z = zi := by rw [hXi.out]
  rw [ez] at hai; simp only [Option.some.injEq, Addr.mk.injEq, and_true] at hai; obtain ⟨rfl, rfl⟩ := hai
  have B0 := Below.refl w.heap.size w
  refine sx_enter (args := [_, _, _]) 38 Try.func70 rfl rfl rfl ?_
  intro A f
  refine wp_seq ?_
  refine sx_list ?_
  refine l_do f rfl rfl rfl (y_assign rfl rfl) ?_; clear f A; intro A f
  refine wpList_nil ?_
  refine x_tn ?_
  refine wp_seq ?_
  refine sx_list ?_
  refine l_do f rfl rfl rfl (y_move rfl rfl) ?_; clear f A; intro A f
  refine l_do f rfl rfl rfl (y_nil rfl rfl) ?_; clear f A; intro A f
  refine l_do f rfl rfl rfl (y_loadN (vs := [_, _, _, _, _]) rfl rfl (ag rfl) rfl (rowls (rowq rh) _ _ ⟨rfl, rfl, rfl, rfl, rfl, trivial⟩)) ?_; clear f A; intro A f
  refine l_do f rfl rfl rfl (y_move rfl rfl) ?_; clear f A; intro A f
  refine l_call f rfl rfl rfl (IsCall.mk' (cap := []) rfl rfl rfl) (pl rfl) (by have e := pZoneOf_c _ y p HY.at_ hzn; rw [hi] at e; exact e) ?_; clear f A; rintro _ W2 ⟨rfl, hb1⟩; refine ⟨_, rfl, ?_⟩; intro A f; replace B0 := Below.next B0 hb1; replace HY := HY.below hb1; replace rh := row_next rh hb1
  refine l_do f rfl rfl rfl (y_assign rfl rfl) ?_; clear f A; intro A f
  refine wpList_nil ?_
  refine x_tn ?_
  refine wp_seq ?_
  refine sx_list ?_
  refine l_do f rfl rfl rfl (y_move rfl rfl) ?_; clear f A; intro A f
  refine l_do f rfl rfl rfl (y_nil rfl rfl) ?_; clear f A; intro A f
  refine l_do f rfl rfl rfl (y_field rfl rfl (fo rfl)) ?_; clear f A; intro A f
  refine l_do f rfl rfl rfl (y_load1 rfl rfl (ag rfl) (rowl (rowq rh) rfl)) ?_; clear f A; intro A f
  refine l_do f rfl rfl rfl (y_move rfl rfl) ?_; clear f A; intro A f
  refine l_do f rfl rfl rfl (y_index rfl rfl (by first | rfl | assumption) rfl (es rfl) (by omega)) ?_; clear f A; intro A f
  refine l_do f rfl rfl rfl (y_loadN (vs := [_, _, _, _]) rfl rfl (ag rfl) rfl ⟨(by first | assumption | exact St.q c0i B0 | exact St.q c1i B0 | exact St.q c2i B0 | exact St.q c3i B0), (by first | assumption | exact St.q c0i B0 | exact St.q c1i B0 | exact St.q c2i B0 | exact St.q c3i B0), (by first | assumption | exact St.q c0i B0 | exact St.q c1i B0 | exact St.q c2i B0 | exact St.q c3i B0), (by first | assumption | exact St.q c0i B0 | exact St.q c1i B0 | exact St.q c2i B0 | exact St.q c3i B0), trivial⟩) ?_; clear f A; intro A f
  refine l_do f rfl rfl rfl (y_move rfl rfl) ?_; clear f A; intro A f
  refine l_do f rfl rfl rfl (y_move rfl rfl) ?_; clear f A; intro A f
  have lz_hbk := row_lt rh
  refine l_call f rfl rfl rfl (IsCall.mk' (cap := []) rfl rfl rfl) (pl rfl) (zBack_ok _ _ _ _ _ _ _ zi p o (hati.below B0) (hXe ▸ hM) (hXe ▸ hA) (hXe ▸ hv)) ?_
  clear f A
  rintro _ W4 ⟨⟨fo2, fn2, fc2, to2, tn2, tc2, rfl, hz2, hf2, ht2⟩, hb3⟩
  refine ⟨_, rfl, ?_⟩
  have hg1 := B0.size
  intro A f
  replace B0 := Below.next B0 hb3; replace HY := HY.below hb3; replace rh := row_next rh hb3
  obtain ⟨Y, hY⟩ : ∃ Y, backZ zi p o = Y := ⟨_, rfl⟩
  rw [hY] at f hz2
  refine l_do f rfl rfl rfl (y_move rfl rfl) ?_; clear f A; intro A f
  refine l_do f rfl rfl rfl (y_ext rfl rfl rfl) ?_; clear f A; intro A f
  refine l_do f rfl rfl rfl (y_ext rfl rfl rfl) ?_; clear f A; intro A f
  refine l_as (z := .agg #[.int .i64 0, .int .i64 0, .slice none 0 0, .slice none 0 0]) f rfl rfl rfl rfl (by kernel_rfl) rfl rfl (fun _ => rfl) (fun _ => rfl) rfl (by intro u hu; simp [Value.cells] at hu; rcases hu with rfl | rfl | rfl | rfl <;> rfl) ?_; clear f A; intro b5 W6 eb5 hb7 rb5 A f
  dsimp only [Value.cells] at rb5
  have hpb5 := hb7
  have o_hbk_b5 : hbk < b5 := by have := row_lt rh; omega
  have z_B0_b5 := B0.size; rw [eb5] at z_B0_b5
  replace B0 := Below.next B0 hb7; replace HY := HY.below hb7; replace hz2 := hz2.below hb7; replace rh := row_next rh hb7
  refine l_do f rfl rfl rfl (y_assign rfl rfl) ?_; clear f A; intro A f
  refine wpList_nil ?_
  refine x_tn ?_
  refine wp_seq ?_
  refine wp_seq ?_
  refine sx_list ?_
  refine l_do f rfl rfl rfl (y_move rfl rfl) ?_; clear f A; intro A f
  refine l_if _ f rfl rfl rfl (y_neq rfl rfl rfl) ?_ ?_
  · intro c8; exfalso; omega
  · clear f A; intro c8 A f
    refine wpList_nil ?_
    refine x_tn ?_
    refine x_condF f rfl ?_
    refine wp_skip ?_
    refine x_tn ?_
    refine wp_seq ?_
    have q_hbk := fun wx (h : But gz W6 wx) => But.row h rh (by omega)
    have q_b5 := fun wx (h : But gz W6 wx) => But.row h rb5 (by omega)
    have hSB : Below w.heap.size w W6 := B0
    refine sx_held (fun wx => But gz W6 wx) [7] (by kernel_rfl) (by kernel_rfl) (blind_then (blind_body)) (But.of_below ((Below.refl _ _).drew)) ?_
    generalize hWd : ({ W6 with drawn := W6.drawn + 1 } : World) = W9
    have hS := but_start gz hWd
    have hdr := drawn_b hWd
    clear hWd
    replace B0 := Below.next B0 hdr; replace HY := HY.below hdr; replace hz2 := hz2.below hdr; replace rh := row_next rh hdr; replace rb5 := row_next rb5 hdr
    refine h_do f rfl rfl rfl rfl (y_move rfl rfl) ?_; clear f A; intro A f
    refine h_do f rfl rfl rfl rfl (y_nil rfl rfl) ?_; clear f A; intro A f
    refine h_do f rfl rfl rfl rfl (y_field rfl rfl (fo rfl)) ?_; clear f A; intro A f
    refine h_do f rfl rfl rfl rfl (y_load1 rfl rfl (ag rfl) (rowl q_hbk rfl)) ?_; clear f A; intro A f
    refine h_do f rfl rfl rfl rfl (y_move rfl rfl) ?_; clear f A; intro A f
    refine h_do f rfl rfl rfl rfl (y_loadN (vs := [_, _, _, _]) rfl rfl (ag rfl) rfl (rowls q_b5 _ _ ⟨rfl, rfl, rfl, rfl, trivial⟩)) ?_; clear f A; intro A f
    refine h_do f rfl rfl rfl rfl (y_index rfl rfl (by first | rfl | assumption) rfl (es rfl) (by omega)) ?_; clear f A; intro A f
    have oz := HY.oz
    rw [HY.ez] at oz
    refine h_storeR f rfl rfl rfl rfl rfl rfl (own_set4 oz hin (Zc.q ⟨Y, fo2, fn2, fc2, to2, tn2, tc2⟩) (Zc.one _) (sz rfl)) (fun _ h => hS.trans h.1) ?_
    rintro W10 ⟨hb11, ow⟩
    have HY2 := HY.set (i := i) (z := ⟨Y, fo2, fn2, fc2, to2, tn2, tc2⟩) hz2 (fun a ha e => by have := hf2 a ha; omega) (fun a ha e => by have := ht2 a ha; omega) hb11 (by rw [HY.ez]; exact ow)
    have hSf := hS.trans hb11
    refine h_nil ?_
    refine x_tn ?_
    refine wp_seq ?_
    refine sx_list ?_
    refine l_do f rfl rfl rfl (y_assign rfl rfl) ?_; clear f A; intro A f
    refine wpList_nil ?_
    refine x_tn ?_
    refine wp_ret ?_
    refine x_ret1 f rfl rfl ?_
    -- return 0: ¬c8@29
    exact ⟨rfl, ⟨Y, fo2, fn2, fc2, to2, tn2, tc2⟩, by rw [hi, hXe]; exact hY.symm, by rw [hi]; exact HY2, ((But.of_below hSB).trans hSf), fun (b : Nat) (hb : b < w.heap.size) (ha : Away b y) => Away.setZ (b := b) (z := ⟨Y, fo2, fn2, fc2, to2, tn2, tc2⟩) ha (fun a h => by have := hf2 a h; omega) (fun a h => by have := ht2 a h; omega)⟩

end Go.Proofs.Ytbjlbmofdnkmiaa
