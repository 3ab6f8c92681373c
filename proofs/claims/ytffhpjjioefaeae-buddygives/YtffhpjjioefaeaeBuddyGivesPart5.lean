/-
  OWN TEXTS, bundled: ZcPut2, ZcBounds, Sized, ZArgs.
-/
import Derived.Test.YtffhpjjioefaeaeBuddyGivesPart4
import Derived.Deep.RegionHeld3
import Derived.Test.YtffhpjjioefaeaeBuddyGivesPart2
import Derived.Test.YtffhpjjioefaeaeBuddyGivesPart1
import Derived.Lib.SmallJoins
import Derived.Deep.SlicePairs

/-
  OWN TEXT. Contract of the code: buddy.put, whole.
-/
namespace Go.Proofs.Ytffhpjjioefaeae
open Go Go.RowKit Go.Proofs.Ytffhpjjioefaeae.Kit

theorem may_len {z : Zn} (h : ZMay z) : z.free.length ≤ 256 := by
  have := freeOk_count h.free h.new.2.2.2.2 h.new.2.1
  have := h.new.2.2.1
  have := h.new.1
  omega
theorem may_blk {z : Zn} (h : ZMay z) : ∀ b ∈ z.free, blkIn z.f z.t b.a b.o := by
  intro b hb
  obtain ⟨i, hi, rfl⟩ := List.getElem_of_mem hb
  have := (freeOk_at h.free hi rfl).1
  rw [List.getD_eq_getElem?_getD, List.getElem?_eq_getElem hi] at this
  exact this

theorem wrap_pw (o : Int) (h : ordOk o) : IntKind.i64.wrap ((2 : Int) ^ o.toNat) = pw o := by
  rcases ord_cases h with ⟨rfl, e⟩ | ⟨rfl, e⟩ | ⟨rfl, e⟩ | ⟨rfl, e⟩ | ⟨rfl, e⟩ <;> (rw [e]; rfl)

set_option maxHeartbeats 4000000 in
theorem put_twice (w : World) (base zb g n cap k tn tk : Nat) (z : Zn) (a o : Int) (Z : Zo w base zb g n cap k tn tk z) (hM : ZMay z) (hA : blkIn z.f z.t a o) (hv : ovlP z.free a o) :
    Calls Try.prog 27 #[.pointer (some ⟨zb, 0, none⟩), .int .i64 a, .int .i64 o] w fun e w' => e = .returned (.int .i64 5) ∧ Below w.heap.size w w' := by
  obtain ⟨⟨o0, o4⟩, a1, a2, a3⟩ := id hA
  obtain ⟨n1, n2, n3, n4, n5⟩ := hM.new
  have hzl := Z.box.lt
  have hgl := Z.glt
  have hkl := Z.klt
  have hp1 := pw_pos o
  have hp2 := pw_le (o := o) ⟨o0, o4⟩
  have hw1 := wrap_pw o ⟨o0, o4⟩
  obtain ⟨P, hP⟩ : ∃ P, pw o = P := ⟨_, rfl⟩
  have HP : Hid (pw o = P) := hP
  rw [hP] at hw1 hp1 hp2
  have hw2 : IntKind.i64.wrap (a + P) = a + P := IntWalk.i64_in _ (by omega)
  have s0 : (w.alloc (.cells #[.int .i64 a] 3)).cell? ⟨w.heap.size, 0, none⟩ = some (.int .i64 a) := by simp
  have hb1 : Below w.heap.size w (((w.alloc (.cells #[.int .i64 a] 3)).alloc (.cells #[.int .i64 (a + P)] 3)).drew) := (((Below.refl _ _).alloc (Nat.le_refl _) _).alloc (by simp) _).drew
  have p1 : (((w.alloc (.cells #[.int .i64 a] 3)).alloc (.cells #[.int .i64 (a + P)] 3)).drew).cell? ⟨w.heap.size, 0, none⟩ = some (.int .i64 a) := by go_simp
  have p2 : (((w.alloc (.cells #[.int .i64 a] 3)).alloc (.cells #[.int .i64 (a + P)] 3)).drew).cell? ⟨w.heap.size + 1, 0, none⟩ = some (.int .i64 (a + P)) := by go_simp
  have p3 : (((w.alloc (.cells #[.int .i64 a] 3)).alloc (.cells #[.int .i64 (a + P)] 3)).drew).frozen? ⟨w.heap.size, 0, none⟩ = false := by go_simp
  have p4 : (((w.alloc (.cells #[.int .i64 a] 3)).alloc (.cells #[.int .i64 (a + P)] 3)).drew).heap.size = w.heap.size + 2 := by simp
  obtain ⟨W1, hW1⟩ : ∃ W1, ((w.alloc (.cells #[.int .i64 a] 3)).alloc (.cells #[.int .i64 (a + P)] 3)).drew = W1 := ⟨_, rfl⟩
  have HW1 : Hid _ := hW1
  rw [hW1] at hb1 p1 p2 p3 p4
  have Z1 := Z.below hb1
  have y2 := Z1.box.c2
  have hlen := bowns_len Z1.own
  have hl256 := may_len hM
  have hHold : HoldsB 41 #[.pointer (some ⟨w.heap.size + 1, 0, none⟩), .pointer (some ⟨w.heap.size, 0, none⟩)] z.free (ovl1 (a + P) a) W1 := fun i hi W hb => by
    have hB := (freeOk_at hM.free hi rfl).1
    exact putF1_any W _ _ (a + P) a _ _ _ (keep p2 hb) (keep p1 hb) hB.1 (by have := hB.2.1; omega) (by have := hB.2.2.1; omega)
  have HCt := bContains_any W1 41 #[.pointer (some ⟨w.heap.size + 1, 0, none⟩), .pointer (some ⟨w.heap.size, 0, none⟩)] (some ⟨g, 0, none⟩) n cap z.free (ovl1 (a + P) a) (blks_own Z1.own (by omega)) putF1_call hHold
  clear hP hW1 hHold
  go_enter Try.func27, Try.ntmps27
  go_wp2_with fail
  go_region_held3 (fun wx => wx.cell? ⟨w.heap.size, 0, none⟩ = some (.int .i64 a)) (first | assumption | go_keep) (fail)
  rw [HW1.out]
  go_wp2_with fail
  go_at_call 40
  refine HCt.mono ?_
  rintro e W2 ⟨rfl, hb2⟩
  have hbb := hb1.trans (hb2.mono hb1.size)
  have hany : z.free.any (ovl1 (a + P) a) = true := by have := (ovl_any z.free a o).2 hv; rw [HP.out] at this; exact this
  rw [hany]
  clear hany HCt Z Z1 HW1 hM hv hA
  go_wp2
  go_ret
  exact ⟨rfl, hbb⟩

/-- What the last statement of put reads. -/
structure PutF (ab zb k K g n cap : Nat) (f t A x : Int) (tv : Value) (W : World) : Prop where
  a : W.cell? ⟨ab, 0, none⟩ = some (.int .i64 A)
  c0 : W.cell? ⟨zb, 0, none⟩ = some (.int .i64 f)
  c1 : W.cell? ⟨zb, 1, none⟩ = some (.int .i64 t)
  c2 : W.cell? ⟨zb, 2, none⟩ = some (.slice (some ⟨g, 0, none⟩) n cap)
  c3 : W.cell? ⟨zb, 3, none⟩ = some tv
  e : W.cell? ⟨k, K, none⟩ = some (.int .i64 x)
theorem PutF.below {ab zb k K g n cap : Nat} {f t A x : Int} {tv : Value} {W W' : World} (h : PutF ab zb k K g n cap f t A x tv W) (hb : Below W.heap.size W W') : PutF ab zb k K g n cap f t A x tv W' := ⟨keep h.a hb, keep h.c0 hb, keep h.c1 hb, keep h.c2 hb, keep h.c3 hb, keep h.e hb⟩
theorem PutF.but {ab zb k K g n cap c : Nat} {f t A x : Int} {tv : Value} {W W' : World} (h : PutF ab zb k K g n cap f t A x tv W) (hb : But c W W') (h1 : ab ≠ c) (h2 : zb ≠ c) (h3 : k ≠ c) : PutF ab zb k K g n cap f t A x tv W' := ⟨hb.cell h.a h1, hb.cell h.c0 h2, hb.cell h.c1 h2, hb.cell h.c2 h2, hb.cell h.c3 h2, hb.cell h.e h3⟩

/-- What a put leaves: the zone with another list, its row the old one or a new one. -/
def PutOk (w w' : World) (base zb g k tn tk : Nat) (z : Zn) : Prop :=
  ∃ g' n' cap', Zo w' base zb g' n' cap' k tn tk z ∧ (g' = g ∨ w.heap.size ≤ g') ∧ Bu2 g zb w w'

set_option maxHeartbeats 8000000 in
theorem put_ok (w : World) (base zb g n cap k tn tk : Nat) (z : Zn) (a o : Int) (Z : Zo w base zb g n cap k tn tk z) (hM : ZMay z) (hA : blkIn z.f z.t a o) (hv : ¬ ovlP z.free a o) :
    Calls Try.prog 27 #[.pointer (some ⟨zb, 0, none⟩), .int .i64 a, .int .i64 o] w fun e w' => e = .returned (.int .i64 0) ∧ PutOk w w' base zb g k tn tk (backZ z a o) := by
  obtain ⟨⟨o0, o4⟩, a1, a2, a3⟩ := id hA
  obtain ⟨n1, n2, n3, n4, n5⟩ := hM.new
  have hzl := Z.box.lt
  have hgl := Z.glt
  have hkl := Z.klt
  have hp1 := pw_pos o
  have hp2 := pw_le (o := o) ⟨o0, o4⟩
  have hw1 := wrap_pw o ⟨o0, o4⟩
  obtain ⟨P, hP⟩ : ∃ P, pw o = P := ⟨_, rfl⟩
  have HP : Hid (pw o = P) := hP
  rw [hP] at hw1 hp1 hp2
  have hw2 : IntKind.i64.wrap (a + P) = a + P := IntWalk.i64_in _ (by omega)
  have s0 : (w.alloc (.cells #[.int .i64 a] 3)).cell? ⟨w.heap.size, 0, none⟩ = some (.int .i64 a) := by simp
  have hb1 : Below w.heap.size w (((w.alloc (.cells #[.int .i64 a] 3)).alloc (.cells #[.int .i64 (a + P)] 3)).drew) := (((Below.refl _ _).alloc (Nat.le_refl _) _).alloc (by simp) _).drew
  have p1 : (((w.alloc (.cells #[.int .i64 a] 3)).alloc (.cells #[.int .i64 (a + P)] 3)).drew).cell? ⟨w.heap.size, 0, none⟩ = some (.int .i64 a) := by go_simp
  have p2 : (((w.alloc (.cells #[.int .i64 a] 3)).alloc (.cells #[.int .i64 (a + P)] 3)).drew).cell? ⟨w.heap.size + 1, 0, none⟩ = some (.int .i64 (a + P)) := by go_simp
  have p3 : (((w.alloc (.cells #[.int .i64 a] 3)).alloc (.cells #[.int .i64 (a + P)] 3)).drew).frozen? ⟨w.heap.size, 0, none⟩ = false := by go_simp
  have p4 : (((w.alloc (.cells #[.int .i64 a] 3)).alloc (.cells #[.int .i64 (a + P)] 3)).drew).heap.size = w.heap.size + 2 := by simp
  obtain ⟨W1, hW1⟩ : ∃ W1, ((w.alloc (.cells #[.int .i64 a] 3)).alloc (.cells #[.int .i64 (a + P)] 3)).drew = W1 := ⟨_, rfl⟩
  have HW1 : Hid _ := hW1
  rw [hW1] at hb1 p1 p2 p3 p4
  have Z1 := Z.below hb1
  have y2 := Z1.box.c2
  have hlen := bowns_len Z1.own
  have hl256 := may_len hM
  have hHold : HoldsB 41 #[.pointer (some ⟨w.heap.size + 1, 0, none⟩), .pointer (some ⟨w.heap.size, 0, none⟩)] z.free (ovl1 (a + P) a) W1 := fun i hi W hb => by
    have hB := (freeOk_at hM.free hi rfl).1
    exact putF1_any W _ _ (a + P) a _ _ _ (keep p2 hb) (keep p1 hb) hB.1 (by have := hB.2.1; omega) (by have := hB.2.2.1; omega)
  have HCt := bContains_any W1 41 #[.pointer (some ⟨w.heap.size + 1, 0, none⟩), .pointer (some ⟨w.heap.size, 0, none⟩)] (some ⟨g, 0, none⟩) n cap z.free (ovl1 (a + P) a) (blks_own Z1.own (by omega)) putF1_call hHold
  clear hP hW1 hHold
  go_enter Try.func27, Try.ntmps27
  go_wp2_with fail
  go_region_held3 (fun wx => wx.cell? ⟨w.heap.size, 0, none⟩ = some (.int .i64 a)) (first | assumption | go_keep) (fail)
  rw [HW1.out]
  go_wp2_with fail
  go_at_call 40
  refine HCt.mono ?_
  rintro e W2 ⟨rfl, hb2⟩
  have hany : z.free.any (ovl1 (a + P) a) = false := by
    cases hh : z.free.any (ovl1 (a + P) a) with
    | false => rfl
    | true => rw [← HP.out] at hh; exact absurd ((ovl_any z.free a o).1 hh) hv
  rw [hany]
  have Z2 := Z1.below hb2
  have hB2 := hb1.trans (hb2.mono hb1.size)
  have r1 := keep p1 hb2
  have r3 : W2.frozen? ⟨w.heap.size, 0, none⟩ = false := (hb2.frozen (p := ⟨w.heap.size, 0, none⟩) (World.block_lt_of_cell? W1 _ p1)).trans p3
  obtain ⟨R, hR⟩ : ∃ R, backGo (4 - o).toNat z.free a o = R := ⟨_, rfl⟩
  have HJ := join_any W2 base zb g n cap z.f z.t (.slice (some ⟨k, 0, none⟩) tn tk) z.free a o hM.new Z2.box Z2.own Z2.gz (by omega) (inc_of_free hM.free) (may_blk hM) hA R hR
  have HR : Hid (backZ z a o = ⟨z.f, z.t, addB R.1 ⟨R.2.1, R.2.2, z.types.getD ((R.2.1 - z.f) / 8).toNat 0⟩, z.types⟩) := by show _ = _; unfold backZ; rw [hR]
  have hs2 := hb2.size
  clear hany HCt Z Z1 HW1 hv hA hR p1 p2 p3 y2 hb1 s0
  go_wp2_with fail
  go_at_call 43
  refine HJ.mono ?_
  rintro e W3 ⟨⟨n', rfl, hn', B3, own3, hbu3⟩, hA3⟩
  obtain ⟨L, A, O⟩ := R
  dsimp only at own3 hA3 HR ⊢
  have gab1 : w.heap.size ≠ zb := by omega
  have gab2 : w.heap.size ≠ g := by omega
  have gab3 : w.heap.size ≠ k := by omega
  have t1 := hbu3.cell r1 gab2 gab1
  have t3 : W3.frozen? ⟨w.heap.size, 0, none⟩ = false := (World.frozen?_of_block (a := ⟨w.heap.size, 0, none⟩) (hbu3.block w.heap.size (World.block_lt_of_cell? W2 _ r1) gab2 gab1)).trans r3
  have typ3 := hbu3.owns Z2.typ (Ne.symm Z2.gk) Z2.kz
  have hbt4 : But w.heap.size W3 (W3.setCell ⟨w.heap.size, 0, none⟩ (.int .i64 A)) := (But.refl _ _).setCell _
  have B4 := B3.but hbt4 (Ne.symm gab1)
  have own4 := own_but own3 hbt4 (Ne.symm gab2)
  have typ4 := own_but typ3 hbt4 (Ne.symm gab3)
  have at4 : (W3.setCell ⟨w.heap.size, 0, none⟩ (.int .i64 A)).cell? ⟨w.heap.size, 0, none⟩ = some (.int .i64 A) := World.cell?_setCell_same _ _ _ t1
  have hU4 : Bu2 g zb w (W3.setCell ⟨w.heap.size, 0, none⟩ (.int .i64 A)) := by
    have h3 : Bu2 g zb w W3 := (Bu2.of_below hB2).trans hbu3
    exact ⟨hbt4.os.trans h3.os, hbt4.tape.trans h3.tape, hbt4.output.trans h3.output, Nat.le_trans h3.size hbt4.size, fun j hj h1 h2 => (hbt4.block j (Nat.lt_of_lt_of_le hj h3.size) (by omega)).trans (h3.block j hj h1 h2)⟩
  obtain ⟨W4, hW4⟩ : ∃ W4, W3.setCell ⟨w.heap.size, 0, none⟩ (.int .i64 A) = W4 := ⟨_, rfl⟩
  rw [hW4] at B4 own4 typ4 at4 hU4
  have HW4 : Hid _ := hW4
  have y2 := B4.c2
  have hlL := bowns_len own4
  have hHold : HoldsB 45 #[.pointer (some ⟨w.heap.size, 0, none⟩)] L (fun b => decide (A < b.a)) W4 := fun i hi W hb => putF2_any W _ A _ _ _ (keep at4 hb)
  have HIx := bIndex_any W4 45 #[.pointer (some ⟨w.heap.size, 0, none⟩)] (some ⟨g, 0, none⟩) n' cap L (fun b => decide (A < b.a)) (blks_own own4 (by omega)) putF2_call hHold
  obtain ⟨⟨oo0, oo4⟩, a4, a5, a6⟩ := hA3
  have hlenT := hM.len
  have htl := owns_len typ4
  obtain ⟨K, hK⟩ : ∃ K : Nat, (A - z.f) / 8 = (K : Int) := ⟨((A - z.f) / 8).toNat, by omega⟩
  obtain ⟨x, hx⟩ : ∃ x, z.types.getD K 0 = x := ⟨_, rfl⟩
  clear hHold hW4 HJ B3 own3 typ3 hbt4 hbu3 r1 r3
  go_wp2_with (rw [HW4.out])
  go_at_call 44
  refine HIx.mono ?_
  rintro e W5 ⟨hf, hb5⟩
  have B5 := B4.below hb5
  have own5 := owns_below own4 hb5 (Nat.le_refl _)
  have typ5 := owns_below typ4 hb5 (Nat.le_refl _)
  have at5 := keep at4 hb5
  have hU5 := hU4.trans (.of_below hb5)
  have hs5 : w.heap.size ≤ W5.heap.size := hU5.size
  clear HIx B4 own4 typ4 at4 hU4 hb5 y2 t1 t3 HW4
  rcases hf with ⟨I, hI, rfl, hi1, hi2⟩ | ⟨rfl, hi1⟩
  · have hI1 : ∀ j, j < I → ¬ (⟨A, O, x⟩ : Bk).a < (L.getD j .zero).a := fun j hj => of_decide_eq_false (hi2 j hj)
    have hI2 : I < L.length → (⟨A, O, x⟩ : Bk).a < (L.getD I .zero).a := fun _ => of_decide_eq_true hi1
    clear hi1 hi2
    have hKn : K < tn := by omega
    have hKi : (K : Int) < (tn : Int) := by omega
    have c0 := B5.c0
    have c1 := B5.c1
    have c2 := B5.c2
    have c3 := B5.c3
    have z2 := B5.z2
    have hcx : W5.cell? ⟨k, K, none⟩ = some (.int .i64 x) := by
      have h := typ5.cellAt K (by omega)
      rw [vals_get, List.getElem?_eq_getElem (by omega)] at h
      rw [h, ← hx, List.getD_eq_getElem?_getD, List.getElem?_eq_getElem (by omega)]
      rfl
    have S0 : PutF w.heap.size zb k K g n' cap z.f z.t A x (.slice (some ⟨k, 0, none⟩) tn tk) W5 := ⟨at5, c0, c1, c2, c3, hcx⟩
    have S1 : PutF w.heap.size zb k K g n' cap z.f z.t A x (.slice (some ⟨k, 0, none⟩) tn tk) { W5 with drawn := W5.drawn + 1 } := S0.below (Below.refl _ _).drew
    have m1 : ∀ wx, PutF w.heap.size zb k K g n' cap z.f z.t A x (.slice (some ⟨k, 0, none⟩) tn tk) wx → wx.cell? ⟨w.heap.size, 0, none⟩ = some (.int .i64 A) := fun wx h => h.a
    have m2 : ∀ wx, PutF w.heap.size zb k K g n' cap z.f z.t A x (.slice (some ⟨k, 0, none⟩) tn tk) wx → wx.cell? ⟨zb, 0, none⟩ = some (.int .i64 z.f) := fun wx h => h.c0
    have m3 : ∀ wx, PutF w.heap.size zb k K g n' cap z.f z.t A x (.slice (some ⟨k, 0, none⟩) tn tk) wx → wx.cell? ⟨zb, 1, none⟩ = some (.int .i64 z.t) := fun wx h => h.c1
    have m4 : ∀ wx, PutF w.heap.size zb k K g n' cap z.f z.t A x (.slice (some ⟨k, 0, none⟩) tn tk) wx → wx.cell? ⟨zb, 2, none⟩ = some (.slice (some ⟨g, 0, none⟩) n' cap) := fun wx h => h.c2
    have m5 : ∀ wx, PutF w.heap.size zb k K g n' cap z.f z.t A x (.slice (some ⟨k, 0, none⟩) tn tk) wx → wx.cell? ⟨zb, 3, none⟩ = some (.slice (some ⟨k, 0, none⟩) tn tk) := fun wx h => h.c3
    have m6 : ∀ wx, PutF w.heap.size zb k K g n' cap z.f z.t A x (.slice (some ⟨k, 0, none⟩) tn tk) wx → wx.cell? ⟨k, K, none⟩ = some (.int .i64 x) := fun wx h => h.e
    have HG : Hid (∀ V, Below W5.heap.size W5 V → Calls Try.prog 21 #[.agg #[.int .i64 z.f, .int .i64 z.t, .slice (some ⟨g, 0, none⟩) n' cap, .slice (some ⟨k, 0, none⟩) tn tk], .int .i64 A] V fun e w' => e = .returned (.int .i64 K) ∧ Below W5.heap.size W5 w') := fun V hV => by
      rw [← hK]
      refine (group_any V z.f z.t _ _ n' cap tn tk A n1 a4 (by omega)).mono ?_
      rintro e w' ⟨rfl, hb⟩
      exact ⟨rfl, hV.trans (hb.mono hV.size)⟩
    have HI : Hid (∀ w6, Below W5.heap.size W5 w6 → Calls Try.prog 46 #[.slice (some ⟨g, 0, none⟩) n' cap, .int .i64 (I : Int), .slice (some ⟨w6.heap.size, 0, none⟩) 1 1] (w6.alloc (.cells #[.int .i64 A, .int .i64 O, .int .i64 x] 39)) fun e w7 => RetRow (w6.alloc (.cells #[.int .i64 A, .int .i64 O, .int .i64 x] 39)) w7 base g (n' + 1) (insB L I ⟨A, O, x⟩) e) := fun w6 hb6 => by
      refine bIns_any _ base g n' cap I w6.heap.size L ⟨A, O, x⟩ (by omega) (by omega) (owns_below (owns_below own5 hb6 (Nat.le_refl _)) (below_box _ _) (Nat.le_refl _)) (heap_alloc_new _ _) (by have := hb6.size; omega)
    have HADD : Hid (backZ z a o = ⟨z.f, z.t, insB L I ⟨A, O, x⟩, z.types⟩) := by
      show _ = _
      rw [HR.out, hK, show ((K : Int)).toNat = K from rfl, hx, addB_at (by omega) hI1 hI2]
    clear hI1 hI2 HR hK hx
    have hBd := (Below.refl W5.heap.size W5).drew
    go_wp2_with fail
    refine wp_region_peel (S := fun wx => PutF w.heap.size zb k K g n' cap z.f z.t A x (.slice (some ⟨k, 0, none⟩) tn tk) wx) 24 _ (by kernel_rfl) (by kernel_rfl) rfl ?_
    simp only [List.take_succ_cons, List.take_zero]
    refine takeH 0 (v := .pointer (some ⟨zb, 0, none⟩)) rfl (by kernel_rfl) (by kernel_rfl) (by kernel_rfl) (fun _ _ _ h => h) rfl (fun wx hSx => ?_) S1 ?_
    · go_simp
    try simp only [Act.put, List.setIfInBounds_toArray, List.set_cons_zero, List.set_cons_succ]
    refine takeH 1 (v := .pointer (some ⟨zb, 0, none⟩)) rfl (by kernel_rfl) (by kernel_rfl) (by kernel_rfl) (fun _ _ _ h => h) rfl (fun wx hSx => ?_) S1 ?_
    · go_simp
    try simp only [Act.put, List.setIfInBounds_toArray, List.set_cons_zero, List.set_cons_succ]
    refine takeH 2 (v := .pointer (some ⟨zb, 0, none⟩)) rfl (by kernel_rfl) (by kernel_rfl) (by kernel_rfl) (fun _ _ _ h => h) rfl (fun wx hSx => ?_) S1 ?_
    · go_simp
    try simp only [Act.put, List.setIfInBounds_toArray, List.set_cons_zero, List.set_cons_succ]
    refine takeH 3 (v := .pointer (some ⟨zb, 2, none⟩)) rfl (by kernel_rfl) (by kernel_rfl) (by kernel_rfl) (fun _ _ _ h => h) rfl (fun wx hSx => ?_) S1 ?_
    · go_simp
    try simp only [Act.put, List.setIfInBounds_toArray, List.set_cons_zero, List.set_cons_succ]
    refine takeH 4 (v := .slice (some ⟨g, 0, none⟩) n' cap) rfl (by kernel_rfl) (by kernel_rfl) (by kernel_rfl) (fun _ _ _ h => h) rfl (fun wx hSx => ?_) S1 ?_
    · go_simp
    try simp only [Act.put, List.setIfInBounds_toArray, List.set_cons_zero, List.set_cons_succ]
    refine takeH 5 (v := .int .i64 (I : Int)) rfl (by kernel_rfl) (by kernel_rfl) (by kernel_rfl) (fun _ _ _ h => h) rfl (fun wx hSx => ?_) S1 ?_
    · go_simp
    try simp only [Act.put, List.setIfInBounds_toArray, List.set_cons_zero, List.set_cons_succ]
    refine takeH 6 (v := .int .i64 A) rfl (by kernel_rfl) (by kernel_rfl) (by kernel_rfl) (fun _ _ _ h => h) rfl (fun wx hSx => ?_) S1 ?_
    · go_simp
    try simp only [Act.put, List.setIfInBounds_toArray, List.set_cons_zero, List.set_cons_succ]
    refine takeH 7 (v := .int .i64 O) rfl (by kernel_rfl) (by kernel_rfl) (by kernel_rfl) (fun _ _ _ h => h) rfl (fun wx hSx => ?_) S1 ?_
    · go_simp
    try simp only [Act.put, List.setIfInBounds_toArray, List.set_cons_zero, List.set_cons_succ]
    refine takeH 8 (v := .pointer (some ⟨zb, 0, none⟩)) rfl (by kernel_rfl) (by kernel_rfl) (by kernel_rfl) (fun _ _ _ h => h) rfl (fun wx hSx => ?_) S1 ?_
    · go_simp
    try simp only [Act.put, List.setIfInBounds_toArray, List.set_cons_zero, List.set_cons_succ]
    refine takeH 9 (v := .pointer (some ⟨zb, 0, none⟩)) rfl (by kernel_rfl) (by kernel_rfl) (by kernel_rfl) (fun _ _ _ h => h) rfl (fun wx hSx => ?_) S1 ?_
    · go_simp
    try simp only [Act.put, List.setIfInBounds_toArray, List.set_cons_zero, List.set_cons_succ]
    refine takeH 10 (v := .pointer (some ⟨zb, 3, none⟩)) rfl (by kernel_rfl) (by kernel_rfl) (by kernel_rfl) (fun _ _ _ h => h) rfl (fun wx hSx => ?_) S1 ?_
    · go_simp
    try simp only [Act.put, List.setIfInBounds_toArray, List.set_cons_zero, List.set_cons_succ]
    refine takeH 11 (v := .slice (some ⟨k, 0, none⟩) tn tk) rfl (by kernel_rfl) (by kernel_rfl) (by kernel_rfl) (fun _ _ _ h => h) rfl (fun wx hSx => ?_) S1 ?_
    · go_simp
    try simp only [Act.put, List.setIfInBounds_toArray, List.set_cons_zero, List.set_cons_succ]
    refine takeH 12 (v := .pointer (some ⟨zb, 0, none⟩)) rfl (by kernel_rfl) (by kernel_rfl) (by kernel_rfl) (fun _ _ _ h => h) rfl (fun wx hSx => ?_) S1 ?_
    · go_simp
    try simp only [Act.put, List.setIfInBounds_toArray, List.set_cons_zero, List.set_cons_succ]
    refine takeH 13 (v := .pointer (some ⟨zb, 0, none⟩)) rfl (by kernel_rfl) (by kernel_rfl) (by kernel_rfl) (fun _ _ _ h => h) rfl (fun wx hSx => ?_) S1 ?_
    · go_simp
    try simp only [Act.put, List.setIfInBounds_toArray, List.set_cons_zero, List.set_cons_succ]
    refine takeH 14 (v := .agg #[.int .i64 z.f, .int .i64 z.t, .slice (some ⟨g, 0, none⟩) n' cap, .slice (some ⟨k, 0, none⟩) tn tk]) rfl (by kernel_rfl) (by kernel_rfl) (by kernel_rfl) (fun _ _ _ h => h) rfl (fun wx hSx => ?_) S1 ?_
    · go_simp
    try simp only [Act.put, List.setIfInBounds_toArray, List.set_cons_zero, List.set_cons_succ]
    refine takeH 15 (v := .int .i64 A) rfl (by kernel_rfl) (by kernel_rfl) (by kernel_rfl) (fun _ _ _ h => h) rfl (fun wx hSx => ?_) S1 ?_
    · go_simp
    try simp only [Act.put, List.setIfInBounds_toArray, List.set_cons_zero, List.set_cons_succ]
    refine oneH 16 (by kernel_rfl) rfl rfl (fun K1 hK1 => ?_)
    go_simp
    refine (HG.out _ hBd).mono ?_
    rintro e w6 ⟨rfl, hb6⟩
    have hS6 := S0.below hb6
    refine hK1 _ _ hS6 ?_
    try simp only [Act.put, List.setIfInBounds_toArray, List.set_cons_zero, List.set_cons_succ]
    refine takeH 17 (v := .pointer (some ⟨k, K, none⟩)) rfl (by kernel_rfl) (by kernel_rfl) (by kernel_rfl) (fun _ _ _ h => h) rfl (fun wx hSx => ?_) hS6 ?_
    · go_simp
    try simp only [Act.put, List.setIfInBounds_toArray, List.set_cons_zero, List.set_cons_succ]
    refine takeH 18 (v := .int .i64 x) rfl (by kernel_rfl) (by kernel_rfl) (by kernel_rfl) (fun _ _ _ h => h) rfl (fun wx hSx => ?_) hS6 ?_
    · go_simp
    try simp only [Act.put, List.setIfInBounds_toArray, List.set_cons_zero, List.set_cons_succ]
    refine takeH 19 (v := .agg #[.int .i64 A, .int .i64 O, .int .i64 x]) rfl (by kernel_rfl) (by kernel_rfl) (by kernel_rfl) (fun _ _ _ h => h) rfl (fun wx hSx => ?_) hS6 ?_
    · go_simp
    try simp only [Act.put, List.setIfInBounds_toArray, List.set_cons_zero, List.set_cons_succ]
    refine oneH 20 (by kernel_rfl) rfl rfl (fun K2 hK2 => ?_)
    go_simp
    have hS6' := hS6.below (below_box w6 (.cells #[.int .i64 A, .int .i64 O, .int .i64 x] 39))
    refine hK2 _ _ hS6' ?_
    try simp only [Act.put, List.setIfInBounds_toArray, List.set_cons_zero, List.set_cons_succ]
    refine oneH 21 (by kernel_rfl) rfl rfl (fun K3 hK3 => ?_)
    go_simp
    refine (HI.out _ hb6).mono ?_
    rintro e w7 ⟨g', cap', rfl, ow7, hb7, hg7⟩
    have B7 := ((B5.below hb6).below (below_box w6 (.cells #[.int .i64 A, .int .i64 O, .int .i64 x] 39))).but hb7 (Ne.symm Z2.gz)
    have f2 := B7.c2
    have f2z := B7.z2
    have hS7 := hS6'.but hb7 gab2 (Ne.symm Z2.gz) (Ne.symm Z2.gk)
    refine hK3 _ _ hS7 ?_
    try simp only [Act.put, List.setIfInBounds_toArray, List.set_cons_zero, List.set_cons_succ]
    refine takeH 22 (v := .pointer (some ⟨zb, 0, none⟩)) rfl (by kernel_rfl) (by kernel_rfl) (by kernel_rfl) (fun _ _ _ h => h) rfl (fun wx hSx => ?_) hS7 ?_
    · go_simp
    try simp only [Act.put, List.setIfInBounds_toArray, List.set_cons_zero, List.set_cons_succ]
    refine takeH 23 (v := .pointer (some ⟨zb, 2, none⟩)) rfl (by kernel_rfl) (by kernel_rfl) (by kernel_rfl) (fun _ _ _ h => h) rfl (fun wx hSx => ?_) hS7 ?_
    · go_simp
    try simp only [Act.put, List.setIfInBounds_toArray, List.set_cons_zero, List.set_cons_succ]
    refine wpAnyH_done (by kernel_rfl) ?_ _
    show Oper.wp _ _ _ _ _ _
    all_goals
      have typ7 := own_but (owns_below (owns_below typ5 hb6 (Nat.le_refl _)) (below_box w6 (.cells #[.int .i64 A, .int .i64 O, .int .i64 x] 39)) (Nat.le_refl _)) hb7 (Ne.symm Z2.gk)
      have hs6 := hb6.size
      have hs7 : w6.heap.size + 1 ≤ w7.heap.size := by have := hb7.size; simpa using this
      have hg7' : g' = g ∨ w6.heap.size + 1 ≤ g' := by simpa using hg7
      have hbt : But zb w7 (w7.setCell ⟨zb, 2, none⟩ (.slice (some ⟨g', 0, none⟩) (n' + 1) cap')) := (But.refl _ _).setCell _
      have hgz' : g' ≠ zb := by rcases hg7' with h | h; rw [h]; exact Z2.gz; omega
      have hgk' : g' ≠ k := by rcases hg7' with h | h; rw [h]; exact Z2.gk; omega
      have ZF : Zo (w7.setCell ⟨zb, 2, none⟩ (.slice (some ⟨g', 0, none⟩) (n' + 1) cap')) base zb g' (n' + 1) cap' k tn tk ⟨z.f, z.t, insB L I ⟨A, O, x⟩, z.types⟩ := ⟨B7.set2 _, own_but ow7 hbt hgz', own_but typ7 hbt Z2.kz, hgz', Z2.kz, hgk'⟩
      have hU : Bu2 g zb w (w7.setCell ⟨zb, 2, none⟩ (.slice (some ⟨g', 0, none⟩) (n' + 1) cap')) := (((hU5.trans (.of_below hb6)).trans (.of_below (below_box w6 (.cells #[.int .i64 A, .int .i64 O, .int .i64 x] 39)))).trans (.of_but_g hb7)).trans (.of_but_z hbt)
      have hgF : g' = g ∨ w.heap.size ≤ g' := by rcases hg7' with h | h; exact .inl h; exact .inr (by omega)
      clear hS6 hS6' hS7 HG HI m1 m2 m3 m4 m5 m6 S0 S1 B5 own5 typ5 c0 c1 c2 c3
      go_wp2
      go_ret
      rw [HADD.out]
      exact ⟨rfl, g', n' + 1, cap', ZF, hgF, hU⟩
  · have hI1 : ∀ j, j < n' → ¬ (⟨A, O, x⟩ : Bk).a < (L.getD j .zero).a := fun j hj => of_decide_eq_false (hi1 j (by omega))
    have hI2 : n' < L.length → (⟨A, O, x⟩ : Bk).a < (L.getD n' .zero).a := fun h => by omega
    clear hi1
    have hKn : K < tn := by omega
    have hKi : (K : Int) < (tn : Int) := by omega
    have c0 := B5.c0
    have c1 := B5.c1
    have c2 := B5.c2
    have c3 := B5.c3
    have z2 := B5.z2
    have hcx : W5.cell? ⟨k, K, none⟩ = some (.int .i64 x) := by
      have h := typ5.cellAt K (by omega)
      rw [vals_get, List.getElem?_eq_getElem (by omega)] at h
      rw [h, ← hx, List.getD_eq_getElem?_getD, List.getElem?_eq_getElem (by omega)]
      rfl
    have S0 : PutF w.heap.size zb k K g n' cap z.f z.t A x (.slice (some ⟨k, 0, none⟩) tn tk) W5 := ⟨at5, c0, c1, c2, c3, hcx⟩
    have S1 : PutF w.heap.size zb k K g n' cap z.f z.t A x (.slice (some ⟨k, 0, none⟩) tn tk) { W5 with drawn := W5.drawn + 1 } := S0.below (Below.refl _ _).drew
    have m1 : ∀ wx, PutF w.heap.size zb k K g n' cap z.f z.t A x (.slice (some ⟨k, 0, none⟩) tn tk) wx → wx.cell? ⟨w.heap.size, 0, none⟩ = some (.int .i64 A) := fun wx h => h.a
    have m2 : ∀ wx, PutF w.heap.size zb k K g n' cap z.f z.t A x (.slice (some ⟨k, 0, none⟩) tn tk) wx → wx.cell? ⟨zb, 0, none⟩ = some (.int .i64 z.f) := fun wx h => h.c0
    have m3 : ∀ wx, PutF w.heap.size zb k K g n' cap z.f z.t A x (.slice (some ⟨k, 0, none⟩) tn tk) wx → wx.cell? ⟨zb, 1, none⟩ = some (.int .i64 z.t) := fun wx h => h.c1
    have m4 : ∀ wx, PutF w.heap.size zb k K g n' cap z.f z.t A x (.slice (some ⟨k, 0, none⟩) tn tk) wx → wx.cell? ⟨zb, 2, none⟩ = some (.slice (some ⟨g, 0, none⟩) n' cap) := fun wx h => h.c2
    have m5 : ∀ wx, PutF w.heap.size zb k K g n' cap z.f z.t A x (.slice (some ⟨k, 0, none⟩) tn tk) wx → wx.cell? ⟨zb, 3, none⟩ = some (.slice (some ⟨k, 0, none⟩) tn tk) := fun wx h => h.c3
    have m6 : ∀ wx, PutF w.heap.size zb k K g n' cap z.f z.t A x (.slice (some ⟨k, 0, none⟩) tn tk) wx → wx.cell? ⟨k, K, none⟩ = some (.int .i64 x) := fun wx h => h.e
    have HG : Hid (∀ V, Below W5.heap.size W5 V → Calls Try.prog 21 #[.agg #[.int .i64 z.f, .int .i64 z.t, .slice (some ⟨g, 0, none⟩) n' cap, .slice (some ⟨k, 0, none⟩) tn tk], .int .i64 A] V fun e w' => e = .returned (.int .i64 K) ∧ Below W5.heap.size W5 w') := fun V hV => by
      rw [← hK]
      refine (group_any V z.f z.t _ _ n' cap tn tk A n1 a4 (by omega)).mono ?_
      rintro e w' ⟨rfl, hb⟩
      exact ⟨rfl, hV.trans (hb.mono hV.size)⟩
    have HI : Hid (∀ w6, Below W5.heap.size W5 w6 → Calls Try.prog 46 #[.slice (some ⟨g, 0, none⟩) n' cap, .int .i64 (n' : Int), .slice (some ⟨w6.heap.size, 0, none⟩) 1 1] (w6.alloc (.cells #[.int .i64 A, .int .i64 O, .int .i64 x] 39)) fun e w7 => RetRow (w6.alloc (.cells #[.int .i64 A, .int .i64 O, .int .i64 x] 39)) w7 base g (n' + 1) (insB L n' ⟨A, O, x⟩) e) := fun w6 hb6 => by
      refine bIns_any _ base g n' cap n' w6.heap.size L ⟨A, O, x⟩ (by omega) (by omega) (owns_below (owns_below own5 hb6 (Nat.le_refl _)) (below_box _ _) (Nat.le_refl _)) (heap_alloc_new _ _) (by have := hb6.size; omega)
    have HADD : Hid (backZ z a o = ⟨z.f, z.t, insB L n' ⟨A, O, x⟩, z.types⟩) := by
      show _ = _
      rw [HR.out, hK, show ((K : Int)).toNat = K from rfl, hx, addB_at (by omega) hI1 hI2]
    clear hI1 hI2 HR hK hx
    have hBd := (Below.refl W5.heap.size W5).drew
    go_wp2_with fail
    refine wp_region_peel (S := fun wx => PutF w.heap.size zb k K g n' cap z.f z.t A x (.slice (some ⟨k, 0, none⟩) tn tk) wx) 24 _ (by kernel_rfl) (by kernel_rfl) rfl ?_
    simp only [List.take_succ_cons, List.take_zero]
    refine takeH 0 (v := .pointer (some ⟨zb, 0, none⟩)) rfl (by kernel_rfl) (by kernel_rfl) (by kernel_rfl) (fun _ _ _ h => h) rfl (fun wx hSx => ?_) S1 ?_
    · go_simp
    try simp only [Act.put, List.setIfInBounds_toArray, List.set_cons_zero, List.set_cons_succ]
    refine takeH 1 (v := .pointer (some ⟨zb, 0, none⟩)) rfl (by kernel_rfl) (by kernel_rfl) (by kernel_rfl) (fun _ _ _ h => h) rfl (fun wx hSx => ?_) S1 ?_
    · go_simp
    try simp only [Act.put, List.setIfInBounds_toArray, List.set_cons_zero, List.set_cons_succ]
    refine takeH 2 (v := .pointer (some ⟨zb, 0, none⟩)) rfl (by kernel_rfl) (by kernel_rfl) (by kernel_rfl) (fun _ _ _ h => h) rfl (fun wx hSx => ?_) S1 ?_
    · go_simp
    try simp only [Act.put, List.setIfInBounds_toArray, List.set_cons_zero, List.set_cons_succ]
    refine takeH 3 (v := .pointer (some ⟨zb, 2, none⟩)) rfl (by kernel_rfl) (by kernel_rfl) (by kernel_rfl) (fun _ _ _ h => h) rfl (fun wx hSx => ?_) S1 ?_
    · go_simp
    try simp only [Act.put, List.setIfInBounds_toArray, List.set_cons_zero, List.set_cons_succ]
    refine takeH 4 (v := .slice (some ⟨g, 0, none⟩) n' cap) rfl (by kernel_rfl) (by kernel_rfl) (by kernel_rfl) (fun _ _ _ h => h) rfl (fun wx hSx => ?_) S1 ?_
    · go_simp
    try simp only [Act.put, List.setIfInBounds_toArray, List.set_cons_zero, List.set_cons_succ]
    refine takeH 5 (v := .int .i64 (n' : Int)) rfl (by kernel_rfl) (by kernel_rfl) (by kernel_rfl) (fun _ _ _ h => h) rfl (fun wx hSx => ?_) S1 ?_
    · go_simp
    try simp only [Act.put, List.setIfInBounds_toArray, List.set_cons_zero, List.set_cons_succ]
    refine takeH 6 (v := .int .i64 A) rfl (by kernel_rfl) (by kernel_rfl) (by kernel_rfl) (fun _ _ _ h => h) rfl (fun wx hSx => ?_) S1 ?_
    · go_simp
    try simp only [Act.put, List.setIfInBounds_toArray, List.set_cons_zero, List.set_cons_succ]
    refine takeH 7 (v := .int .i64 O) rfl (by kernel_rfl) (by kernel_rfl) (by kernel_rfl) (fun _ _ _ h => h) rfl (fun wx hSx => ?_) S1 ?_
    · go_simp
    try simp only [Act.put, List.setIfInBounds_toArray, List.set_cons_zero, List.set_cons_succ]
    refine takeH 8 (v := .pointer (some ⟨zb, 0, none⟩)) rfl (by kernel_rfl) (by kernel_rfl) (by kernel_rfl) (fun _ _ _ h => h) rfl (fun wx hSx => ?_) S1 ?_
    · go_simp
    try simp only [Act.put, List.setIfInBounds_toArray, List.set_cons_zero, List.set_cons_succ]
    refine takeH 9 (v := .pointer (some ⟨zb, 0, none⟩)) rfl (by kernel_rfl) (by kernel_rfl) (by kernel_rfl) (fun _ _ _ h => h) rfl (fun wx hSx => ?_) S1 ?_
    · go_simp
    try simp only [Act.put, List.setIfInBounds_toArray, List.set_cons_zero, List.set_cons_succ]
    refine takeH 10 (v := .pointer (some ⟨zb, 3, none⟩)) rfl (by kernel_rfl) (by kernel_rfl) (by kernel_rfl) (fun _ _ _ h => h) rfl (fun wx hSx => ?_) S1 ?_
    · go_simp
    try simp only [Act.put, List.setIfInBounds_toArray, List.set_cons_zero, List.set_cons_succ]
    refine takeH 11 (v := .slice (some ⟨k, 0, none⟩) tn tk) rfl (by kernel_rfl) (by kernel_rfl) (by kernel_rfl) (fun _ _ _ h => h) rfl (fun wx hSx => ?_) S1 ?_
    · go_simp
    try simp only [Act.put, List.setIfInBounds_toArray, List.set_cons_zero, List.set_cons_succ]
    refine takeH 12 (v := .pointer (some ⟨zb, 0, none⟩)) rfl (by kernel_rfl) (by kernel_rfl) (by kernel_rfl) (fun _ _ _ h => h) rfl (fun wx hSx => ?_) S1 ?_
    · go_simp
    try simp only [Act.put, List.setIfInBounds_toArray, List.set_cons_zero, List.set_cons_succ]
    refine takeH 13 (v := .pointer (some ⟨zb, 0, none⟩)) rfl (by kernel_rfl) (by kernel_rfl) (by kernel_rfl) (fun _ _ _ h => h) rfl (fun wx hSx => ?_) S1 ?_
    · go_simp
    try simp only [Act.put, List.setIfInBounds_toArray, List.set_cons_zero, List.set_cons_succ]
    refine takeH 14 (v := .agg #[.int .i64 z.f, .int .i64 z.t, .slice (some ⟨g, 0, none⟩) n' cap, .slice (some ⟨k, 0, none⟩) tn tk]) rfl (by kernel_rfl) (by kernel_rfl) (by kernel_rfl) (fun _ _ _ h => h) rfl (fun wx hSx => ?_) S1 ?_
    · go_simp
    try simp only [Act.put, List.setIfInBounds_toArray, List.set_cons_zero, List.set_cons_succ]
    refine takeH 15 (v := .int .i64 A) rfl (by kernel_rfl) (by kernel_rfl) (by kernel_rfl) (fun _ _ _ h => h) rfl (fun wx hSx => ?_) S1 ?_
    · go_simp
    try simp only [Act.put, List.setIfInBounds_toArray, List.set_cons_zero, List.set_cons_succ]
    refine oneH 16 (by kernel_rfl) rfl rfl (fun K1 hK1 => ?_)
    go_simp
    refine (HG.out _ hBd).mono ?_
    rintro e w6 ⟨rfl, hb6⟩
    have hS6 := S0.below hb6
    refine hK1 _ _ hS6 ?_
    try simp only [Act.put, List.setIfInBounds_toArray, List.set_cons_zero, List.set_cons_succ]
    refine takeH 17 (v := .pointer (some ⟨k, K, none⟩)) rfl (by kernel_rfl) (by kernel_rfl) (by kernel_rfl) (fun _ _ _ h => h) rfl (fun wx hSx => ?_) hS6 ?_
    · go_simp
    try simp only [Act.put, List.setIfInBounds_toArray, List.set_cons_zero, List.set_cons_succ]
    refine takeH 18 (v := .int .i64 x) rfl (by kernel_rfl) (by kernel_rfl) (by kernel_rfl) (fun _ _ _ h => h) rfl (fun wx hSx => ?_) hS6 ?_
    · go_simp
    try simp only [Act.put, List.setIfInBounds_toArray, List.set_cons_zero, List.set_cons_succ]
    refine takeH 19 (v := .agg #[.int .i64 A, .int .i64 O, .int .i64 x]) rfl (by kernel_rfl) (by kernel_rfl) (by kernel_rfl) (fun _ _ _ h => h) rfl (fun wx hSx => ?_) hS6 ?_
    · go_simp
    try simp only [Act.put, List.setIfInBounds_toArray, List.set_cons_zero, List.set_cons_succ]
    refine oneH 20 (by kernel_rfl) rfl rfl (fun K2 hK2 => ?_)
    go_simp
    have hS6' := hS6.below (below_box w6 (.cells #[.int .i64 A, .int .i64 O, .int .i64 x] 39))
    refine hK2 _ _ hS6' ?_
    try simp only [Act.put, List.setIfInBounds_toArray, List.set_cons_zero, List.set_cons_succ]
    refine oneH 21 (by kernel_rfl) rfl rfl (fun K3 hK3 => ?_)
    go_simp
    refine (HI.out _ hb6).mono ?_
    rintro e w7 ⟨g', cap', rfl, ow7, hb7, hg7⟩
    have B7 := ((B5.below hb6).below (below_box w6 (.cells #[.int .i64 A, .int .i64 O, .int .i64 x] 39))).but hb7 (Ne.symm Z2.gz)
    have f2 := B7.c2
    have f2z := B7.z2
    have hS7 := hS6'.but hb7 gab2 (Ne.symm Z2.gz) (Ne.symm Z2.gk)
    refine hK3 _ _ hS7 ?_
    try simp only [Act.put, List.setIfInBounds_toArray, List.set_cons_zero, List.set_cons_succ]
    refine takeH 22 (v := .pointer (some ⟨zb, 0, none⟩)) rfl (by kernel_rfl) (by kernel_rfl) (by kernel_rfl) (fun _ _ _ h => h) rfl (fun wx hSx => ?_) hS7 ?_
    · go_simp
    try simp only [Act.put, List.setIfInBounds_toArray, List.set_cons_zero, List.set_cons_succ]
    refine takeH 23 (v := .pointer (some ⟨zb, 2, none⟩)) rfl (by kernel_rfl) (by kernel_rfl) (by kernel_rfl) (fun _ _ _ h => h) rfl (fun wx hSx => ?_) hS7 ?_
    · go_simp
    try simp only [Act.put, List.setIfInBounds_toArray, List.set_cons_zero, List.set_cons_succ]
    refine wpAnyH_done (by kernel_rfl) ?_ _
    show Oper.wp _ _ _ _ _ _
    all_goals
      have typ7 := own_but (owns_below (owns_below typ5 hb6 (Nat.le_refl _)) (below_box w6 (.cells #[.int .i64 A, .int .i64 O, .int .i64 x] 39)) (Nat.le_refl _)) hb7 (Ne.symm Z2.gk)
      have hs6 := hb6.size
      have hs7 : w6.heap.size + 1 ≤ w7.heap.size := by have := hb7.size; simpa using this
      have hg7' : g' = g ∨ w6.heap.size + 1 ≤ g' := by simpa using hg7
      have hbt : But zb w7 (w7.setCell ⟨zb, 2, none⟩ (.slice (some ⟨g', 0, none⟩) (n' + 1) cap')) := (But.refl _ _).setCell _
      have hgz' : g' ≠ zb := by rcases hg7' with h | h; rw [h]; exact Z2.gz; omega
      have hgk' : g' ≠ k := by rcases hg7' with h | h; rw [h]; exact Z2.gk; omega
      have ZF : Zo (w7.setCell ⟨zb, 2, none⟩ (.slice (some ⟨g', 0, none⟩) (n' + 1) cap')) base zb g' (n' + 1) cap' k tn tk ⟨z.f, z.t, insB L n' ⟨A, O, x⟩, z.types⟩ := ⟨B7.set2 _, own_but ow7 hbt hgz', own_but typ7 hbt Z2.kz, hgz', Z2.kz, hgk'⟩
      have hU : Bu2 g zb w (w7.setCell ⟨zb, 2, none⟩ (.slice (some ⟨g', 0, none⟩) (n' + 1) cap')) := (((hU5.trans (.of_below hb6)).trans (.of_below (below_box w6 (.cells #[.int .i64 A, .int .i64 O, .int .i64 x] 39)))).trans (.of_but_g hb7)).trans (.of_but_z hbt)
      have hgF : g' = g ∨ w.heap.size ≤ g' := by rcases hg7' with h | h; exact .inl h; exact .inr (by omega)
      clear hS6 hS6' hS7 HG HI m1 m2 m3 m4 m5 m6 S0 S1 B5 own5 typ5 c0 c1 c2 c3
      go_wp2
      go_ret
      rw [HADD.out]
      exact ⟨rfl, g', n' + 1, cap', ZF, hgF, hU⟩

end Go.Proofs.Ytffhpjjioefaeae

/-
  OWN TEXT. Contract of the code: buddy.areBounds.
-/
namespace Go.Proofs.Ytffhpjjioefaeae
open Go Go.RowKit Go.Proofs.Ytffhpjjioefaeae.Kit

/-- P3.1, decided. -/
def newB (f t : Int) : Bool := decide (0 ≤ f ∧ f ≤ t ∧ t ≤ 256 ∧ f % 16 = 0 ∧ t % 16 = 0)
theorem newB_iff (f t : Int) : newB f t = true ↔ newOk f t := by unfold newB newOk; simp
theorem newB_t {f t : Int} (h : newOk f t) : newB f t = true := (newB_iff f t).2 h
theorem newB_f {f t : Int} (h : ¬ newOk f t) : newB f t = false := by
  cases g : newB f t with
  | false => rfl
  | true => exact absurd ((newB_iff f t).1 g) h

set_option maxHeartbeats 1000000 in
theorem bounds_any (w : World) (f t : Int) :
    Calls Try.prog 35 #[.int .i64 f, .int .i64 t] w fun e w' => e = .returned (.bool (newB f t)) ∧ w = w' := by
  by_cases h1 : 0 ≤ f
  · by_cases h2 : f ≤ t
    · by_cases h3 : t ≤ 256
      · obtain ⟨F, rfl⟩ : ∃ F : Nat, f = F := ⟨f.toNat, by omega⟩
        obtain ⟨T, rfl⟩ : ∃ T : Nat, t = T := ⟨t.toNat, by omega⟩
        by_cases h4 : (F : Int) % 16 = 0
        · by_cases h5 : (T : Int) % 16 = 0
          · have HR : Hid (newB F T = true) := newB_t ⟨h1, h2, h3, h4, h5⟩
            go_enter Try.func35, Try.ntmps35
            go_wp2
            go_ret
            exact ⟨ret_bool HR.out.symm, rfl⟩
          · have HR : Hid (newB F T = false) := newB_f fun g => h5 g.2.2.2.2
            have h5' : ((T : Int) % 16 == 0) = false := by simpa using h5
            clear h5
            go_enter Try.func35, Try.ntmps35
            go_wp2
            go_ret
            exact ⟨ret_bool HR.out.symm, rfl⟩
        · have HR : Hid (newB F T = false) := newB_f fun g => h4 g.2.2.2.1
          have h4' : ((F : Int) % 16 == 0) = false := by simpa using h4
          clear h4
          go_enter Try.func35, Try.ntmps35
          go_wp2
          go_ret
          exact ⟨ret_bool HR.out.symm, rfl⟩
      · have HR : Hid (newB f t = false) := newB_f fun g => h3 g.2.2.1
        go_enter Try.func35, Try.ntmps35
        go_wp2
        go_ret
        exact ⟨ret_bool HR.out.symm, rfl⟩
    · have HR : Hid (newB f t = false) := newB_f fun g => h2 g.2.1
      go_enter Try.func35, Try.ntmps35
      go_wp2
      go_ret
      exact ⟨ret_bool HR.out.symm, rfl⟩
  · have HR : Hid (newB f t = false) := newB_f fun g => h1 g.1
    go_enter Try.func35, Try.ntmps35
    go_wp2
    go_ret
    exact ⟨ret_bool HR.out.symm, rfl⟩

end Go.Proofs.Ytffhpjjioefaeae

/-
  OWN TEXT. The form's own reach, part by part, over whatever program.
-/
namespace Go.Proofs.Ytffhpjjioefaeae.Kit
open Go Go.RowKit

/-- Each string, slice and map of a datum is within the reach. -/
def Sized {H : Type} (P : Program) (t : TypeId) (d : DataW H) : Prop := ∀ n ∈ d.weights P t, n ≤ reachBytes

theorem sized_arg {H : Type} {P : Program} {ts : List TypeId} {ds : List (DataW H)} (h : (DataW.weightsEach P ts ds).all (· ≤ reachBytes) = true) {j : Nat} {t : TypeId} {d : DataW H} (ht : ts[j]? = some t) (hd : ds[j]? = some d) : Sized P t d := by
  intro n hn
  have := List.all_eq_true.1 h _ (DataW.weights_mem_each ht hd n hn)
  simpa using this

theorem sized_field {H : Type} {P : Program} {t u : TypeId} {fs : Array Field} {parts : List (DataW H)} {d : DataW H} (h : Sized P t (.agg parts)) (ht : P.underlying t = some (.struct fs)) {i : Nat} (hu : (fs.toList.map (·.type))[i]? = some u) (hd : parts[i]? = some d) : Sized P u d := by
  intro n hn
  apply h
  have := DataW.weights_mem_each hu hd n hn
  simpa [DataW.weights, ht] using this

theorem sized_sl {H : Type} {P : Program} {t e : TypeId} {elems spare : List (DataW H)} (h : Sized P t (.slice elems spare)) (ht : P.underlying t = some (.slice e)) : (elems.length + spare.length) * P.bytesOf e ≤ reachBytes :=
  h _ (by simp [DataW.weights, ht])

end Go.Proofs.Ytffhpjjioefaeae.Kit

/-
  OWN TEXT. How an argument that is a zone (api.Zone) is opened for the walk, over whatever program.
-/
namespace Go.Proofs.Ytffhpjjioefaeae.Kit
open Go Go.RowKit Go.ChangeShapes Go.WideShapes Go.ChangeAt Go.Joins Go.Deep

/-- The numbers are words. -/
structure Bk.Fits (b : Bk) : Prop where
  a : (Lit.int .i64 b.a).wf = true
  o : (Lit.int .i64 b.o).wf = true
  t : (Lit.int .i64 b.t).wf = true

/-- What the walk is told of a slice of blocks that came in. -/
structure IsBlks (w : World) (ao : Option Addr) (n cap : Nat) (l : List Bk) : Prop where
  len : l.length = n
  le : n ≤ cap
  reach : cap * 24 ≤ 140737488351232
  at_ : BlksAt w ao l
  wf : ∀ i, i < n → (l.getD i .zero).Fits

/-- What the walk is told of a zone that came in. -/
structure IsZone (w : World) (fo : Option Addr) (fn fc : Nat) (to_ : Option Addr) (tn tc : Nat) (z : Zn) : Prop where
  fr : IsBlks w fo fn fc z.free
  ty : IsInts w to_ tn tc z.types
  wf : (Lit.int .i64 z.f).wf = true
  wt : (Lit.int .i64 z.t).wf = true

theorem IsZone.zn {w : World} {fo : Option Addr} {fn fc : Nat} {to_ : Option Addr} {tn tc : Nat} {z : Zn} (h : IsZone w fo fn fc to_ tn tc z) : ZnAt w fo fn to_ tn z :=
  ⟨⟨h.fr.len, by have := h.fr.reach; have := h.fr.le; omega, h.fr.at_⟩, ⟨h.ty.len, by have := h.ty.reach; have := h.ty.le; omega, h.ty.at_⟩⟩

theorem open_blks {H : Type} {enc : TypeId × Value → H} {P : Program} {W : World} {t e : TypeId} {f0 f1 f2 : Field} {fuel : Nat} {v : Value} {y : DataW H × List MemPlace}
    (ht : P.underlying t = some (.slice e)) (he : P.underlying e = some (.struct #[f0, f1, f2])) (ce : P.cellsOf e = 3) (be : P.bytesOf e = 24)
    (hone : oneCellFields P #[f0, f1, f2] = true) (u0 : P.underlying f0.type = some (.int .i64)) (u1 : P.underlying f1.type = some (.int .i64)) (u2 : P.underlying f2.type = some (.int .i64))
    (hf : DataW.trod enc P W 0 (fun _ => true) true fuel t [v] = some y) (hs : Sized P t y.1) :
    ∃ ao n cap l, v = .slice ao n cap ∧ IsBlks W ao n cap l := by
  rcases open_slice ht hf with ⟨hcs, _⟩ | ⟨a, n, m0, m, fu, D, Pl, hcs, _, hl, hm, hmm, hx, hc⟩
  · simp only [List.cons.injEq, and_true] at hcs
    subst hcs
    exact ⟨none, 0, 0, [], rfl, ⟨rfl, by omega, by omega, BlksAt.nil _ _, fun i hi => by omega⟩⟩
  · simp only [List.cons.injEq, and_true] at hcs
    subst hcs
    simp only [if_true] at hmm
    subst hmm
    have hr := hx ▸ hs
    have hr2 := sized_sl hr ht
    rw [be] at hr2
    simp only [List.length_map, List.length_range, reachBytes] at hr2
    rw [ce] at hc
    obtain ⟨o0, k0⟩ := hone_of hone 0 f0 rfl
    obtain ⟨o1, k1⟩ := hone_of hone 1 f1 rfl
    obtain ⟨o2, k2⟩ := hone_of hone 2 f2 rfl
    have each : ∀ i, i < m → ∃ r : Bk, r.Fits ∧ W.cell? (a.add (i * 3)) = some (.int .i64 r.a) ∧ W.cell? (a.add (i * 3 + 1)) = some (.int .i64 r.o) ∧ W.cell? (a.add (i * 3 + 2)) = some (.int .i64 r.t) := by
      intro i hi
      obtain ⟨cs', h1, h2⟩ := hc i hi
      obtain ⟨_, hlen, hcell⟩ := World.cells?_some h1
      obtain ⟨y0, y1, y2, q, _, _, g0, g1, g2⟩ := trod_struct3 he h2
      match cs', hlen with
      | [v0, v1, v2], _ =>
        simp [o0, k0] at g0
        simp [o1, k1] at g1
        simp [o2, k2] at g2
        obtain ⟨x0, e0, _, w0⟩ := DataW.trod_int u0 g0
        obtain ⟨x1, e1, _, w1⟩ := DataW.trod_int u1 g1
        obtain ⟨x2, e2, _, w2⟩ := DataW.trod_int u2 g2
        simp only [List.cons.injEq, and_true] at e0 e1 e2
        subst e0 e1 e2
        have c0 := hcell 0 (by omega)
        have c1 := hcell 1 (by omega)
        have c2 := hcell 2 (by omega)
        rw [add_add] at c0 c1 c2
        exact ⟨⟨x0, x1, x2⟩, ⟨w0, w1, w2⟩, by simpa using c0, by simpa using c1, by simpa using c2⟩
    have inh : Inhabited Bk := ⟨Bk.zero⟩
    obtain ⟨g, hg⟩ := choose_lt each
    have hget : ∀ i, i < n → ((List.range n).map g).getD i .zero = g i := by
      intro i hi
      simp [List.getD_eq_getElem?_getD, hi]
    refine ⟨some a, n, m, (List.range n).map g, rfl, ⟨by simp, hl, by omega, ?_, fun i hi => by rw [hget i hi]; exact (hg i (by omega)).1⟩⟩
    intro i hi
    have hi' : i < n := by simpa using hi
    obtain ⟨_, d0, d1, d2⟩ := hg i (by omega)
    obtain ⟨b, off, spot⟩ := a
    have hspot : spot = none := by
      have := World.cell?_spot (hg 0 (by omega)).2.1
      simpa [Addr.add] using this
    subst hspot
    have hadd : ∀ j, (⟨b, off, none⟩ : Addr).add j = ⟨b, off + j, none⟩ := fun j => by unfold Addr.add; split <;> simp_all
    rw [hadd] at d0 d1 d2
    rw [hget i hi']
    exact ⟨b, off, rfl, d0, by rw [Nat.add_assoc]; exact d1, by rw [Nat.add_assoc]; exact d2⟩

theorem open_ints_in {H : Type} {enc : TypeId × Value → H} {P : Program} {W : World} {t e : TypeId} {fuel : Nat} {v : Value} {y : DataW H × List MemPlace}
    (ht : P.underlying t = some (.slice e)) (he : P.underlying e = some (.int .i64)) (hc : P.cellsOf e = 1) (be : P.bytesOf e = 8)
    (hf : DataW.trod enc P W 0 (fun _ => true) true fuel t [v] = some y) (hs : Sized P t y.1) :
    ∃ ao n cap xs, v = .slice ao n cap ∧ IsInts W ao n cap xs := by
  rcases open_ints ht he hc hf with ⟨hcs, _⟩ | ⟨x, n, cap, zs, hcs, _, hl, hm, hz, hx, hcell, _⟩
  · simp only [List.cons.injEq, and_true] at hcs
    subst hcs
    exact ⟨none, 0, 0, [], rfl, ⟨rfl, by omega, by omega, fun _ => ⟨rfl, rfl⟩, IntsAt.nil _ _⟩⟩
  · simp only [List.cons.injEq, and_true] at hcs
    subst hcs
    simp only [if_true] at hz
    have hr := hx ▸ hs
    have hr2 := sized_sl hr ht
    rw [be] at hr2
    simp only [lits, List.length_map, List.length_take, List.length_drop, reachBytes] at hr2
    have hr' : cap * 8 ≤ 140737488351232 := by omega
    refine ⟨some x, n, cap, zs.take n, rfl, ⟨by simp; omega, hl, hr', fun h => (by cases h), ?_⟩⟩
    intro i hi
    have hi' : i < n := by simp at hi; omega
    have hci := hcell i (by omega)
    obtain ⟨b, off, spot⟩ := x
    have hspot : spot = none := by
      by_cases h0 : i = 0
      · subst h0; simpa [Addr.add] using World.cell?_spot hci
      · have := World.cell?_spot (hcell 0 (by omega)); simpa [Addr.add] using this
    subst hspot
    refine ⟨b, off, rfl, ?_⟩
    have hadd : (⟨b, off, none⟩ : Addr).add i = ⟨b, off + i, none⟩ := by unfold Addr.add; split <;> simp_all
    rw [hadd] at hci
    rw [hci]
    simp [List.getD_eq_getElem?_getD, hi']

theorem open_zone_arg {H : Type} {enc : TypeId × Value → H} {P : Program} {W : World} {base : Nat} {zt t e u i : TypeId} {g0 g1 g2 g3 f0 f1 f2 : Field} {v : Value} {d : DataW H} {p : List MemPlace}
    (hb : P.underlying zt = some (.struct #[g0, g1, g2, g3])) (hone : oneCellFields P #[g0, g1, g2, g3] = true) (cb : P.cellsOf zt = 4) (t2 : g2.type = t) (t3 : g3.type = u)
    (ht : P.underlying t = some (.slice e)) (he : P.underlying e = some (.struct #[f0, f1, f2])) (ce : P.cellsOf e = 3) (be : P.bytesOf e = 24) (hone2 : oneCellFields P #[f0, f1, f2] = true)
    (u0 : P.underlying f0.type = some (.int .i64)) (u1 : P.underlying f1.type = some (.int .i64)) (u2 : P.underlying f2.type = some (.int .i64))
    (hu : P.underlying u = some (.slice i)) (hi : P.underlying i = some (.int .i64)) (ci : P.cellsOf i = 1) (bi : P.bytesOf i = 8)
    (w0 : P.underlying g0.type = some (.int .i64)) (w1 : P.underlying g1.type = some (.int .i64))
    (hv : Value.okWide P W .any base zt v) (h : DataW.Trod enc P W 0 (fun _ => true) true zt v d p) (hs : Sized P zt d) :
    ∃ f t fo fn fc to_ tn tc fr ty, v = .agg #[.int .i64 f, .int .i64 t, .slice fo fn fc, .slice to_ tn tc] ∧ IsZone W fo fn fc to_ tn tc ⟨f, t, fr, ty⟩ := by
  obtain ⟨v0, v1, v2, v3, y0, y1, y2, y3, m, rfl, rfl, _, h0, h1, h2, h3⟩ := open_agg4 hb hone cb hv h
  have s2 : Sized P t y2.1 := sized_field hs hb (i := 2) (by simp [t2]) rfl
  have s3 : Sized P u y3.1 := sized_field hs hb (i := 3) (by simp [t3]) rfl
  rw [t2] at h2
  rw [t3] at h3
  obtain ⟨x, e0, _, f0w⟩ := DataW.trod_int w0 h0
  obtain ⟨z, e1, _, f1w⟩ := DataW.trod_int w1 h1
  simp only [List.cons.injEq, and_true] at e0 e1
  subst e0 e1
  obtain ⟨fo, fn, fc, fr, rfl, hF⟩ := open_blks ht he ce be hone2 u0 u1 u2 h2 s2
  obtain ⟨to_, tn, tc, ty, rfl, hT⟩ := open_ints_in hu hi ci bi h3 s3
  exact ⟨x, z, fo, fn, fc, to_, tn, tc, fr, ty, rfl, ⟨hF, hT, f0w, f1w⟩⟩

/-- The numbers of a zone are words. -/
structure ZFits (z : Zn) : Prop where
  f : (Lit.int .i64 z.f).wf = true
  t : (Lit.int .i64 z.t).wf = true
  fr : ∀ i, i < z.free.length → (z.free.getD i .zero).Fits

theorem IsZone.fits {w : World} {fo : Option Addr} {fn fc : Nat} {to_ : Option Addr} {tn tc : Nat} {z : Zn} (h : IsZone w fo fn fc to_ tn tc z) : ZFits z := ⟨h.wf, h.wt, fun i hi => h.fr.wf i (by have := h.fr.len; omega)⟩

end Go.Proofs.Ytffhpjjioefaeae.Kit
