/-
  OWN TEXTS, bundled: ZcBack, HcBack, HZb, HcDrain, HcBackF, ZGivP, ZChP, ZHaP.
-/
import Derived.Test.YtbjlbmofdnkmiaaPagesFreesPart14
import Derived.Test.YtbjlbmofdnkmiaaPagesFreesPart9
import Derived.Test.YtbjlbmofdnkmiaaPagesFreesPart4
import Derived.Test.YtbjlbmofdnkmiaaPagesFreesPart11
import Derived.Test.YtbjlbmofdnkmiaaPagesFreesPart10
import Derived.Test.YtbjlbmofdnkmiaaPagesFreesPart3

/-
  OWN TEXT. Contracts of the code: buddy.Back.
-/
namespace Go.Proofs.Ytbjlbmofdnkmiaa
open Go Go.RowKit Go.Proofs.Ytbjlbmofdnkmiaa.Kit

set_option maxHeartbeats 1000000 in
theorem zBack_no (w : World) (fo : Option Addr) (fn fc : Nat) (to_ : Option Addr) (tn tc : Nat) (z : Zn) (a o : Int) (h : ZnAt w fo fn to_ tn z) (hf : ZFits z) (hM : ¬ ZMay z) :
    Calls Try.prog 84 #[.agg #[.int .i64 z.f, .int .i64 z.t, .slice fo fn fc, .slice to_ tn tc], .int .i64 a, .int .i64 o] w fun e w' => RetNone 8 e ∧ Below w.heap.size w w' := by
  have I0 := cbI_first w fo fn fc to_ tn tc z h
  have c0 := I0.box.c0
  have c1 := I0.box.c1
  have c2 := I0.box.c2
  have c3 := I0.box.c3
  clear h
  go_enter Try.func84, Try.ntmps84
  go_wp2_with fail
  go_at_call 63
  refine (zCheck_no _ fo fn fc to_ tn tc z I0.zn hf hM).mono ?_
  rintro e w1 ⟨rfl, hb⟩
  have I1 := I0.step hb
  have R1 := I1.res
  obtain ⟨⟨x0, d0⟩, ⟨x1, d1⟩, ⟨x2, d2⟩, ⟨x3, d3⟩, z0, z1, z2, z3⟩ := id R1
  have hB := I1.b
  have hs := I1.size
  clear I0 I1 hb hM hf c0 c1 c2 c3
  go_wp2
  obtain ⟨k0, k1, k2, k3⟩ := res4 R1 (.int .i64 0) (.int .i64 0) (.slice none 0 0) (.slice none 0 0)
  have hbt := but4 w1 (w.heap.size + 1) (.int .i64 0) (.int .i64 0) (.slice none 0 0) (.slice none 0 0)
  exact bodyPost_ret (v := .tuple #[.agg #[.int .i64 0, .int .i64 0, .slice none 0 0, .slice none 0 0], .int .i64 8]) (by simp [results, Try.results84, go_sem, k0, k1, k2, k3]) rfl ⟨rfl, hB.trans (hbt.below (by omega) (by omega))⟩

set_option maxHeartbeats 1000000 in
theorem zBack_range (w : World) (fo : Option Addr) (fn fc : Nat) (to_ : Option Addr) (tn tc : Nat) (z : Zn) (a o : Int) (h : ZnAt w fo fn to_ tn z) (_wa : (Lit.int .i64 a).wf = true) (_wo : (Lit.int .i64 o).wf = true) (hM : ZMay z) (hbk : ¬ blkIn z.f z.t a o) :
    Calls Try.prog 84 #[.agg #[.int .i64 z.f, .int .i64 z.t, .slice fo fn fc, .slice to_ tn tc], .int .i64 a, .int .i64 o] w fun e w' => RetNone 1 e ∧ Below w.heap.size w w' := by
  have I0 := cbI_first w fo fn fc to_ tn tc z h
  have c0 := I0.box.c0
  have c1 := I0.box.c1
  have c2 := I0.box.c2
  have c3 := I0.box.c3
  have hB2 : Hid (blkB z.f z.t a o = false) := by
    show _ = _
    cases hb : blkB z.f z.t a o with
    | false => rfl
    | true => exact absurd ((blkB_iff z.f z.t a o).1 hb) hbk
  clear h hbk
  go_enter Try.func84, Try.ntmps84
  go_wp2_with fail
  go_at_call 63
  refine (zCheck_ok _ fo fn fc to_ tn tc z I0.zn hM).mono ?_
  rintro e w1 ⟨rfl, hb⟩
  have I1 := I0.step hb
  clear I0 hb c0 c1 c2 c3
  have c0 := I1.box.c0
  have c1 := I1.box.c1
  have c2 := I1.box.c2
  have c3 := I1.box.c3
  go_wp2_with fail
  go_at_call 97
  refine (blkMay_any _ z.f z.t fo to_ fn fc tn tc a o hM.new).mono ?_
  rintro e w2 ⟨rfl, hb2⟩
  rw [hB2.out]
  have I2 := I1.step hb2
  have R1 := I2.res
  obtain ⟨⟨x0, d0⟩, ⟨x1, d1⟩, ⟨x2, d2⟩, ⟨x3, d3⟩, z0, z1, z2, z3⟩ := id R1
  have hB := I2.b
  have hs := I2.size
  clear I1 I2 hb2 hM c0 c1 c2 c3
  go_wp2
  obtain ⟨k0, k1, k2, k3⟩ := res4 R1 (.int .i64 0) (.int .i64 0) (.slice none 0 0) (.slice none 0 0)
  have hbt := but4 w2 (w.heap.size + 1) (.int .i64 0) (.int .i64 0) (.slice none 0 0) (.slice none 0 0)
  exact bodyPost_ret (v := .tuple #[.agg #[.int .i64 0, .int .i64 0, .slice none 0 0, .slice none 0 0], .int .i64 1]) (by simp [results, Try.results84, go_sem, k0, k1, k2, k3]) rfl ⟨rfl, hB.trans (hbt.below (by omega) (by omega))⟩

set_option maxHeartbeats 2000000 in
theorem zBack_twice (w : World) (fo : Option Addr) (fn fc : Nat) (to_ : Option Addr) (tn tc : Nat) (z : Zn) (a o : Int) (h : ZnAt w fo fn to_ tn z) (hM : ZMay z) (hA : blkIn z.f z.t a o) (hv : ovlP z.free a o) :
    Calls Try.prog 84 #[.agg #[.int .i64 z.f, .int .i64 z.t, .slice fo fn fc, .slice to_ tn tc], .int .i64 a, .int .i64 o] w fun e w' => RetNone 5 e ∧ Below w.heap.size w w' := by
  have I0 := cbI_first w fo fn fc to_ tn tc z h
  have c0 := I0.box.c0
  have c1 := I0.box.c1
  have c2 := I0.box.c2
  have c3 := I0.box.c3
  have hB2 : Hid (blkB z.f z.t a o = true) := (blkB_iff z.f z.t a o).2 hA
  clear h
  go_enter Try.func84, Try.ntmps84
  go_wp2_with fail
  go_at_call 63
  refine (zCheck_ok _ fo fn fc to_ tn tc z I0.zn hM).mono ?_
  rintro e w1 ⟨rfl, hb⟩
  have I1 := I0.step hb
  clear I0 hb c0 c1 c2 c3
  have c0 := I1.box.c0
  have c1 := I1.box.c1
  have c2 := I1.box.c2
  have c3 := I1.box.c3
  go_wp2_with fail
  go_at_call 97
  refine (blkMay_any _ z.f z.t fo to_ fn fc tn tc a o hM.new).mono ?_
  rintro e w2 ⟨rfl, hb2⟩
  rw [hB2.out]
  have I2 := I1.step hb2
  clear I1 hb2 c0 c1 c2 c3
  have c0 := I2.box.c0
  have c1 := I2.box.c1
  have c2 := I2.box.c2
  have c3 := I2.box.c3
  go_wp2_with fail
  go_at_call 41
  refine (zCopy_own _ fo fn fc to_ tn tc z I2.zn).mono ?_
  rintro e w3 ⟨g, k, rfl, o1, o2, hgk, hb3⟩
  have I3 := I2.step hb3
  have Z4 := zo_new o1 o2 hgk
  have hbx := below_box w3 (.cells #[.int .i64 z.f, .int .i64 z.t, .slice (some ⟨g, 0, none⟩) fn fn, .slice (some ⟨k, 0, none⟩) tn tn] 44)
  have I4 := I3.step hbx
  have HP := put_twice _ _ w3.heap.size g fn fn k tn tn z a o Z4 hM hA hv
  clear I2 I3 hb3 c0 c1 c2 c3 o1 o2 hbx
  go_wp2_with fail
  go_at_call 75
  refine HP.mono ?_
  rintro e w5 ⟨rfl, hb5⟩
  have I5 := I4.step hb5
  have R1 := I5.res
  obtain ⟨⟨x0, d0⟩, ⟨x1, d1⟩, ⟨x2, d2⟩, ⟨x3, d3⟩, z0, z1, z2, z3⟩ := id R1
  have hB := I5.b
  have hs := I5.size
  clear I4 I5 hb5 hM HP Z4
  go_wp2
  obtain ⟨k0, k1, k2, k3⟩ := res4 R1 (.int .i64 0) (.int .i64 0) (.slice none 0 0) (.slice none 0 0)
  have hbt := but4 w5 (w.heap.size + 1) (.int .i64 0) (.int .i64 0) (.slice none 0 0) (.slice none 0 0)
  exact bodyPost_ret (v := .tuple #[.agg #[.int .i64 0, .int .i64 0, .slice none 0 0, .slice none 0 0], .int .i64 5]) (by simp [results, Try.results84, go_sem, k0, k1, k2, k3]) rfl ⟨rfl, hB.trans (hbt.below (by omega) (by omega))⟩

theorem backGo_len (n : Nat) (l : List Bk) (a o : Int) : (backGo n l a o).1.length ≤ l.length := by
  induction n generalizing l a o with
  | zero => exact Nat.le_refl _
  | succ n ih =>
    unfold backGo
    split
    · exact Nat.le_trans (ih _ _ _) (dropB_len _ _ _)
    · exact Nat.le_refl _
theorem backZ_len (z : Zn) (a o : Int) : (backZ z a o).free.length ≤ z.free.length + 1 := by
  show (addB _ _).length ≤ _
  rw [addB_len]
  have := backGo_len (4 - o).toNat z.free a o
  omega

set_option maxHeartbeats 2000000 in
theorem zBack_ok (w : World) (fo : Option Addr) (fn fc : Nat) (to_ : Option Addr) (tn tc : Nat) (z : Zn) (a o : Int) (h : ZnAt w fo fn to_ tn z) (hM : ZMay z) (hA : blkIn z.f z.t a o) (hv : ¬ ovlP z.free a o) :
    Calls Try.prog 84 #[.agg #[.int .i64 z.f, .int .i64 z.t, .slice fo fn fc, .slice to_ tn tc], .int .i64 a, .int .i64 o] w fun e w' => RetZone w.heap.size w' (backZ z a o) e ∧ Below w.heap.size w w' := by
  have I0 := cbI_first w fo fn fc to_ tn tc z h
  have c0 := I0.box.c0
  have c1 := I0.box.c1
  have c2 := I0.box.c2
  have c3 := I0.box.c3
  have hB2 : Hid (blkB z.f z.t a o = true) := (blkB_iff z.f z.t a o).2 hA
  have htr := h.types.reach
  have hbl := may_len hM
  obtain ⟨Y, hY⟩ : ∃ Y, backZ z a o = Y := ⟨_, rfl⟩
  have hlenB : Y.free.length ≤ 257 := by rw [← hY]; have := backZ_len z a o; omega
  rw [hY]
  have HY : Hid _ := hY
  clear h hY
  go_enter Try.func84, Try.ntmps84
  go_wp2_with fail
  go_at_call 63
  refine (zCheck_ok _ fo fn fc to_ tn tc z I0.zn hM).mono ?_
  rintro e w1 ⟨rfl, hb⟩
  have I1 := I0.step hb
  clear I0 hb c0 c1 c2 c3
  have c0 := I1.box.c0
  have c1 := I1.box.c1
  have c2 := I1.box.c2
  have c3 := I1.box.c3
  go_wp2_with fail
  go_at_call 97
  refine (blkMay_any _ z.f z.t fo to_ fn fc tn tc a o hM.new).mono ?_
  rintro e w2 ⟨rfl, hb2⟩
  rw [hB2.out]
  have I2 := I1.step hb2
  clear I1 hb2 c0 c1 c2 c3
  have c0 := I2.box.c0
  have c1 := I2.box.c1
  have c2 := I2.box.c2
  have c3 := I2.box.c3
  go_wp2_with fail
  go_at_call 41
  refine (zCopy_own _ fo fn fc to_ tn tc z I2.zn).mono ?_
  rintro e w3 ⟨g, k, rfl, o1, o2, hgk, hb3⟩
  have I3 := I2.step hb3
  have hf1 := owns_fresh o1 _ rfl
  have hf2 := owns_fresh o2 _ rfl
  have Z4 := zo_new o1 o2 hgk
  have hbx := below_box w3 (.cells #[.int .i64 z.f, .int .i64 z.t, .slice (some ⟨g, 0, none⟩) fn fn, .slice (some ⟨k, 0, none⟩) tn tn] 44)
  have I4 := I3.step hbx
  have hs2 := I2.size
  have hs3 := I3.size
  have HP := put_ok _ _ w3.heap.size g fn fn k tn tn z a o Z4 hM hA hv
  have hgl := Z4.glt
  obtain ⟨W4, hW4⟩ : ∃ W4, w3.alloc (.cells #[.int .i64 z.f, .int .i64 z.t, .slice (some ⟨g, 0, none⟩) fn fn, .slice (some ⟨k, 0, none⟩) tn tn] 44) = W4 := ⟨_, rfl⟩
  rw [hW4] at I4 HP hgl
  have HW4 : Hid _ := hW4
  rw [HY.out] at HP
  dsimp only at hf1 hf2
  clear I2 I3 hb3 c0 c1 c2 c3 o1 o2 hbx Z4 hW4
  go_wp2_with (rw [HW4.out])
  go_at_call 75
  refine HP.mono ?_
  rintro e w5 ⟨rfl, g', n', cap', Z5, hg', hU⟩
  have hs4 := I4.size
  have R1 := hU.res I4.res (by omega) (by omega)
  have hB : Below w.heap.size w w5 := I4.b.trans (hU.below (by omega) (by omega) (by omega))
  obtain ⟨⟨x0, d0⟩, ⟨x1, d1⟩, ⟨x2, d2⟩, ⟨x3, d3⟩, z0, z1, z2, z3⟩ := id R1
  have y0 := Z5.box.c0
  have y1 := Z5.box.c1
  have y2 := Z5.box.c2
  have y3 := Z5.box.c3
  have hs5 := hU.size
  have hgB : w.heap.size + 2 ≤ g' := by rcases hg' with e | e <;> omega
  have B7 := blks_own Z5.own (by have := bowns_len Z5.own; omega)
  have N7 := nums_of_owns Z5.typ htr
  clear I4 HP HW4
  go_wp2
  obtain ⟨k0, k1, k2, k3⟩ := res4 R1 (.int .i64 Y.f) (.int .i64 Y.t) (.slice (some ⟨g', 0, none⟩) n' cap') (.slice (some ⟨k, 0, none⟩) tn tn)
  have hbt := but4 w5 (w.heap.size + 1) (.int .i64 Y.f) (.int .i64 Y.t) (.slice (some ⟨g', 0, none⟩) n' cap') (.slice (some ⟨k, 0, none⟩) tn tn)
  exact bodyPost_ret (v := .tuple #[.agg #[.int .i64 Y.f, .int .i64 Y.t, .slice (some ⟨g', 0, none⟩) n' cap', .slice (some ⟨k, 0, none⟩) tn tn], .int .i64 0]) (by simp [results, Try.results84, go_sem, k0, k1, k2, k3]) rfl ⟨⟨_, _, _, _, _, _, rfl, hbt.zn ⟨B7, N7⟩ (fun a ha => by cases ha; dsimp only; omega) (fun a ha => by cases ha; dsimp only; omega), fun a ha => by cases ha; dsimp only; omega, fun a ha => by cases ha; dsimp only; omega⟩, hB.trans (hbt.below (by omega) (by omega))⟩

end Go.Proofs.Ytbjlbmofdnkmiaa

/-
  OWN TEXT. Contracts of the code: pages.back (written by sxback.py).
-/
namespace Go.Proofs.Ytbjlbmofdnkmiaa
open Go Go.RowKit Go.Proofs.Ytbjlbmofdnkmiaa.Kit

set_option maxRecDepth 10000 in
set_option maxHeartbeats 4000000 in
theorem pBack_ok (w : World) (B gz hbk : Nat) (y : Hx) (p o : Int) (rh : w.heap[hbk]? = some (.cells #[.slice y.zo y.zn y.zc, .slice y.mo y.mn y.mc, .int .i64 y.cpus, .slice y.lo y.ln y.lc, .slice y.vo y.vn y.vc] 28 (0, 0))) (HY : HZ w B gz y) (hne : hbk ≠ gz) (hc : CanBack y.hp p o) :
    Calls Try.prog 70 #[.pointer (some ⟨hbk, 0, none⟩), .int .i64 p, .int .i64 o] w fun e w' => e = .returned (.int .i64 0) ∧ ∃ z, z.z = backZ (y.zs.getD (zIdx y.hp p) .zero).z p o ∧ HZ w' B gz (y.setZ (zIdx y.hp p) z) ∧ But gz w w' ∧ (∀ b, b < w.heap.size → Away b y → Away b (y.setZ (zIdx y.hp p) z)) := by
  have HY0 := HY.at_
  have hin : zIdx y.hp p < y.zn := by have := zIdx_lt y.hp p; have e : y.hp.zones.length = y.zs.length := (by show (y.zs.map _).length = _; rw [List.length_map]); have := hc.n; have := HY.at_.zones.len; omega
  have hzn : y.zn = 2 := by have e : y.hp.zones.length = y.zs.length := (by show (y.zs.map _).length = _; rw [List.length_map]); have := hc.n; have := HY.at_.zones.len; omega
  have hgz : gz < w.heap.size := HY.lt (by omega)
  have hM := hc.m
  have hA := hc.i
  have hv := hc.v
  rw [hp_zone] at hM hA hv
  have hrl := row_lt rh
  obtain ⟨i, hi⟩ : ∃ i, zIdx y.hp p = i := ⟨_, rfl⟩
  rw [hi] at hin hM hA hv
  have ez := HY.ez
  obtain ⟨gi, oi, zi, foi, fni, fci, toi, tni, tci, hai, c0i, c1i, c2i, c3i, hati, hXi⟩ := HY.at_.zones.at (i) (by omega)
  replace c0i := St.of c0i; replace c1i := St.of c1i; replace c2i := St.of c2i; replace c3i := St.of c3i
  have hXe : (y.zs.getD i .zero).z = zi := by rw [hXi.out]
  rw [ez] at hai; simp only [Option.some.injEq, Addr.mk.injEq, and_true] at hai; obtain ⟨rfl, rfl⟩ := hai
  have B0 := Below.refl w.heap.size w
  refine sx_enter (args := [_, _, _]) 38 Try.func70 rfl rfl rfl ?_
  intro A f
  refine wp_seq ?_
  refine sx_list ?_
  refine l_do f rfl rfl rfl (y_assign rfl rfl) ?_; clear f A; intro A f
  refine wpList_nil ?_
  refine x_tn ?_
  refine wp_seq ?_
  refine sx_list ?_
  refine l_do f rfl rfl rfl (y_move rfl rfl) ?_; clear f A; intro A f
  refine l_do f rfl rfl rfl (y_nil rfl rfl) ?_; clear f A; intro A f
  refine l_do f rfl rfl rfl (y_loadN (vs := [_, _, _, _, _]) rfl rfl (ag rfl) rfl (rowls (rowq rh) _ _ ⟨rfl, rfl, rfl, rfl, rfl, trivial⟩)) ?_; clear f A; intro A f
  refine l_do f rfl rfl rfl (y_move rfl rfl) ?_; clear f A; intro A f
  refine l_call f rfl rfl rfl (IsCall.mk' (cap := []) rfl rfl rfl) (pl rfl) (by have e := pZoneOf_c _ y p HY.at_ hzn; rw [hi] at e; exact e) ?_; clear f A; rintro _ W2 ⟨rfl, hb1⟩; refine ⟨_, rfl, ?_⟩; intro A f; replace B0 := Below.next B0 hb1; replace HY := HY.below hb1; replace rh := row_next rh hb1
  refine l_do f rfl rfl rfl (y_assign rfl rfl) ?_; clear f A; intro A f
  refine wpList_nil ?_
  refine x_tn ?_
  refine wp_seq ?_
  refine sx_list ?_
  refine l_do f rfl rfl rfl (y_move rfl rfl) ?_; clear f A; intro A f
  refine l_do f rfl rfl rfl (y_nil rfl rfl) ?_; clear f A; intro A f
  refine l_do f rfl rfl rfl (y_field rfl rfl (fo rfl)) ?_; clear f A; intro A f
  refine l_do f rfl rfl rfl (y_load1 rfl rfl (ag rfl) (rowl (rowq rh) rfl)) ?_; clear f A; intro A f
  refine l_do f rfl rfl rfl (y_move rfl rfl) ?_; clear f A; intro A f
  refine l_do f rfl rfl rfl (y_index rfl rfl (by first | rfl | assumption) rfl (es rfl) (by omega)) ?_; clear f A; intro A f
  refine l_do f rfl rfl rfl (y_loadN (vs := [_, _, _, _]) rfl rfl (ag rfl) rfl ⟨(by first | assumption | exact St.q c0i B0 | exact St.q c1i B0 | exact St.q c2i B0 | exact St.q c3i B0), (by first | assumption | exact St.q c0i B0 | exact St.q c1i B0 | exact St.q c2i B0 | exact St.q c3i B0), (by first | assumption | exact St.q c0i B0 | exact St.q c1i B0 | exact St.q c2i B0 | exact St.q c3i B0), (by first | assumption | exact St.q c0i B0 | exact St.q c1i B0 | exact St.q c2i B0 | exact St.q c3i B0), trivial⟩) ?_; clear f A; intro A f
  refine l_do f rfl rfl rfl (y_move rfl rfl) ?_; clear f A; intro A f
  refine l_do f rfl rfl rfl (y_move rfl rfl) ?_; clear f A; intro A f
  have lz_hbk := row_lt rh
  refine l_call f rfl rfl rfl (IsCall.mk' (cap := []) rfl rfl rfl) (pl rfl) (zBack_ok _ _ _ _ _ _ _ zi p o (hati.below B0) (hXe ▸ hM) (hXe ▸ hA) (hXe ▸ hv)) ?_
  clear f A
  rintro _ W4 ⟨⟨fo2, fn2, fc2, to2, tn2, tc2, rfl, hz2, hf2, ht2⟩, hb3⟩
  refine ⟨_, rfl, ?_⟩
  have hg1 := B0.size
  intro A f
  replace B0 := Below.next B0 hb3; replace HY := HY.below hb3; replace rh := row_next rh hb3
  obtain ⟨Y, hY⟩ : ∃ Y, backZ zi p o = Y := ⟨_, rfl⟩
  rw [hY] at f hz2
  refine l_do f rfl rfl rfl (y_move rfl rfl) ?_; clear f A; intro A f
  refine l_do f rfl rfl rfl (y_ext rfl rfl rfl) ?_; clear f A; intro A f
  refine l_do f rfl rfl rfl (y_ext rfl rfl rfl) ?_; clear f A; intro A f
  refine l_as (z := .agg #[.int .i64 0, .int .i64 0, .slice none 0 0, .slice none 0 0]) f rfl rfl rfl rfl (by kernel_rfl) rfl rfl (fun _ => rfl) (fun _ => rfl) rfl (by intro u hu; simp [Value.cells] at hu; rcases hu with rfl | rfl | rfl | rfl <;> rfl) ?_; clear f A; intro b5 W6 eb5 hb7 rb5 A f
  dsimp only [Value.cells] at rb5
  have hpb5 := hb7
  have o_hbk_b5 : hbk < b5 := by have := row_lt rh; omega
  have z_B0_b5 := B0.size; rw [eb5] at z_B0_b5
  replace B0 := Below.next B0 hb7; replace HY := HY.below hb7; replace hz2 := hz2.below hb7; replace rh := row_next rh hb7
  refine l_do f rfl rfl rfl (y_assign rfl rfl) ?_; clear f A; intro A f
  refine wpList_nil ?_
  refine x_tn ?_
  refine wp_seq ?_
  refine wp_seq ?_
  refine sx_list ?_
  refine l_do f rfl rfl rfl (y_move rfl rfl) ?_; clear f A; intro A f
  refine l_if _ f rfl rfl rfl (y_neq rfl rfl rfl) ?_ ?_
  · intro c8; exfalso; omega
  · clear f A; intro c8 A f
    refine wpList_nil ?_
    refine x_tn ?_
    refine x_condF f rfl ?_
    refine wp_skip ?_
    refine x_tn ?_
    refine wp_seq ?_
    have q_hbk := fun wx (h : But gz W6 wx) => But.row h rh (by omega)
    have q_b5 := fun wx (h : But gz W6 wx) => But.row h rb5 (by omega)
    have hSB : Below w.heap.size w W6 := B0
    refine sx_held (fun wx => But gz W6 wx) [7] (by kernel_rfl) (by kernel_rfl) (blind_then (blind_body)) (But.of_below ((Below.refl _ _).drew)) ?_
    generalize hWd : ({ W6 with drawn := W6.drawn + 1 } : World) = W9
    have hS := but_start gz hWd
    have hdr := drawn_b hWd
    clear hWd
    replace B0 := Below.next B0 hdr; replace HY := HY.below hdr; replace hz2 := hz2.below hdr; replace rh := row_next rh hdr; replace rb5 := row_next rb5 hdr
    refine h_do f rfl rfl rfl rfl (y_move rfl rfl) ?_; clear f A; intro A f
    refine h_do f rfl rfl rfl rfl (y_nil rfl rfl) ?_; clear f A; intro A f
    refine h_do f rfl rfl rfl rfl (y_field rfl rfl (fo rfl)) ?_; clear f A; intro A f
    refine h_do f rfl rfl rfl rfl (y_load1 rfl rfl (ag rfl) (rowl q_hbk rfl)) ?_; clear f A; intro A f
    refine h_do f rfl rfl rfl rfl (y_move rfl rfl) ?_; clear f A; intro A f
    refine h_do f rfl rfl rfl rfl (y_loadN (vs := [_, _, _, _]) rfl rfl (ag rfl) rfl (rowls q_b5 _ _ ⟨rfl, rfl, rfl, rfl, trivial⟩)) ?_; clear f A; intro A f
    refine h_do f rfl rfl rfl rfl (y_index rfl rfl (by first | rfl | assumption) rfl (es rfl) (by omega)) ?_; clear f A; intro A f
    have oz := HY.oz
    rw [HY.ez] at oz
    refine h_storeR f rfl rfl rfl rfl rfl rfl (own_set4 oz hin (Zc.q ⟨Y, fo2, fn2, fc2, to2, tn2, tc2⟩) (Zc.one _) (sz rfl)) (fun _ h => hS.trans h.1) ?_
    rintro W10 ⟨hb11, ow⟩
    have HY2 := HY.set (i := i) (z := ⟨Y, fo2, fn2, fc2, to2, tn2, tc2⟩) hz2 (fun a ha e => by have := hf2 a ha; omega) (fun a ha e => by have := ht2 a ha; omega) hb11 (by rw [HY.ez]; exact ow)
    have hSf := hS.trans hb11
    refine h_nil ?_
    refine x_tn ?_
    refine wp_seq ?_
    refine sx_list ?_
    refine l_do f rfl rfl rfl (y_assign rfl rfl) ?_; clear f A; intro A f
    refine wpList_nil ?_
    refine x_tn ?_
    refine wp_ret ?_
    refine x_ret1 f rfl rfl ?_
    -- return 0: ¬c8@29
    exact ⟨rfl, ⟨Y, fo2, fn2, fc2, to2, tn2, tc2⟩, by rw [hi, hXe]; exact hY.symm, by rw [hi]; exact HY2, ((But.of_below hSB).trans hSf), fun (b : Nat) (hb : b < w.heap.size) (ha : Away b y) => Away.setZ (b := b) (z := ⟨Y, fo2, fn2, fc2, to2, tn2, tc2⟩) ha (fun a h => by have := hf2 a h; omega) (fun a h => by have := ht2 a h; omega)⟩

end Go.Proofs.Ytbjlbmofdnkmiaa

/-
  OWN TEXT. Pages go back to their zones one by one: plain.
-/
namespace Go.Proofs.Ytbjlbmofdnkmiaa
open Go Go.RowKit Go.Proofs.Ytbjlbmofdnkmiaa.Kit

/-- The same heap with other zones. -/
def Kit.Hx.withZ (y : Hx) (zs : List Zc) : Hx := { y with zs := zs }
theorem withZ_self (y : Hx) : y.withZ y.zs = y := rfl
theorem withZ_set (y : Hx) (zs : List Zc) (i : Nat) (z : Zc) : (y.withZ zs).setZ i z = y.withZ (zs.set i z) := rfl
theorem Kit.But.gr {g : Nat} {w w' w'' : World} (h : But g w w') (hb : Below w'.heap.size w' w'') : But g w w'' := h.trans (But.of_below hb)
def backs (H : Hp) : List Int → Hp
  | [] => H
  | p :: r => backs (backH H p 0) r
def CanBacks : Hp → List Int → Prop
  | _, [] => True
  | H, p :: r => CanBack H p 0 ∧ CanBacks (backH H p 0) r
theorem backs_append (H : Hp) : ∀ (l m : List Int), backs H (l ++ m) = backs (backs H l) m
  | [], _ => rfl
  | p :: r, m => by rw [List.cons_append]; exact backs_append (backH H p 0) r m
theorem canBacks_append {H : Hp} : ∀ {l m : List Int}, CanBacks H (l ++ m) ↔ CanBacks H l ∧ CanBacks (backs H l) m
  | [], m => by simp [CanBacks, backs]
  | p :: r, m => by
    have ih := canBacks_append (H := backH H p 0) (l := r) (m := m)
    simp only [List.cons_append, CanBacks, backs, ih, and_assoc]
theorem backs_take {H : Hp} {l : List Int} {k : Nat} (hk : k < l.length) {p : Int} (hp : l.getD k 0 = p) : backs H (l.take (k + 1)) = backH (backs H (l.take k)) p 0 := by
  rw [List.getD_eq_getElem?_getD, List.getElem?_eq_getElem hk] at hp
  rw [List.take_succ_eq_append_getElem hk, backs_append]
  simp only [Option.getD_some] at hp
  rw [hp]; rfl
theorem canBacks_at {H : Hp} {l : List Int} (h : CanBacks H l) {k : Nat} (hk : k < l.length) {p : Int} (hp : l.getD k 0 = p) : CanBack (backs H (l.take k)) p 0 := by
  rw [List.getD_eq_getElem?_getD, List.getElem?_eq_getElem hk] at hp
  simp only [Option.getD_some] at hp
  have e : l = l.take k ++ (p :: l.drop (k + 1)) := by rw [← hp, List.getElem_cons_drop, List.take_append_drop]
  rw [e, canBacks_append] at h
  exact h.2.1
theorem backs_lists (H : Hp) : ∀ (l : List Int), (backs H l).lists = H.lists ∧ (backs H l).mins = H.mins ∧ (backs H l).cpus = H.cpus ∧ (backs H l).live = H.live
  | [] => ⟨rfl, rfl, rfl, rfl⟩
  | p :: r => backs_lists (backH H p 0) r
theorem withZ_hp (y : Hx) (zs : List Zc) : (y.withZ zs).hp = { y.hp with zones := zs.map (·.z) } := rfl

theorem backH_ft (H : Hp) (p o : Int) (i : Nat) : ((backH H p o).zones.getD i ⟨0, 0, [], []⟩).f = (H.zones.getD i ⟨0, 0, [], []⟩).f ∧ ((backH H p o).zones.getD i ⟨0, 0, [], []⟩).t = (H.zones.getD i ⟨0, 0, [], []⟩).t := by
  unfold backH
  dsimp only
  simp only [List.getD_eq_getElem?_getD, List.getElem?_set]
  by_cases e : zIdx H p = i
  · subst e
    by_cases h : zIdx H p < H.zones.length
    · simp [h, backZ]
    · simp [h]
  · simp [e]
theorem backs_ft (i : Nat) : ∀ (l : List Int) (H : Hp), ((backs H l).zones.getD i ⟨0, 0, [], []⟩).f = (H.zones.getD i ⟨0, 0, [], []⟩).f ∧ ((backs H l).zones.getD i ⟨0, 0, [], []⟩).t = (H.zones.getD i ⟨0, 0, [], []⟩).t
  | [], H => ⟨rfl, rfl⟩
  | p :: r, H => by
    have h1 := backs_ft i r (backH H p 0)
    have h2 := backH_ft H p 0 i
    exact ⟨h1.1.trans h2.1, h1.2.trans h2.2⟩
/-- The second zone begins where the first one ends. -/
def Adj (y : Hx) : Prop := (y.zs.getD 1 .zero).z.f = (y.zs.getD 0 .zero).z.t
theorem adj_backs {y : Hx} {zs : List Zc} {l : List Int} (h : Adj y) (he : (y.withZ zs).hp = backs y.hp l) : Adj (y.withZ zs) := by
  unfold Adj at h ⊢
  rw [← hp_zone, ← hp_zone] at h ⊢
  rw [he, (backs_ft 1 l y.hp).1, (backs_ft 0 l y.hp).2]
  exact h

end Go.Proofs.Ytbjlbmofdnkmiaa

/-
  OWN TEXT. Contracts of the code: pages.backAll, drain (written by sxdr.py).
-/
namespace Go.Proofs.Ytbjlbmofdnkmiaa
open Go Go.RowKit Go.Proofs.Ytbjlbmofdnkmiaa.Kit

set_option maxRecDepth 10000 in
set_option maxHeartbeats 4000000 in
theorem pBackAll_ok (w : World) (B gz hbk : Nat) (y : Hx) (po : Option Addr) (pn pc : Nat) (ps : List Int) (rh : w.heap[hbk]? = some (.cells #[.slice y.zo y.zn y.zc, .slice y.mo y.mn y.mc, .int .i64 y.cpus, .slice y.lo y.ln y.lc, .slice y.vo y.vn y.vc] 28 (0, 0))) (HY : HZ w B gz y) (hne : hbk ≠ gz) (hN : Nums w po pn ps) (hne2 : 0 < ps.length → ∀ a, po = some a → a.block ≠ gz) (hc : CanBacks y.hp ps) :
    Calls Try.prog 72 #[.pointer (some ⟨hbk, 0, none⟩), .slice po pn pc] w fun e w' => e = .returned (.int .i64 0) ∧ ∃ zs, (y.withZ zs).hp = backs y.hp ps ∧ HZ w' B gz (y.withZ zs) ∧ But gz w w' ∧ (∀ b, b < w.heap.size → Away b y → Away b (y.withZ zs)) := by
  have nr := hN.reach
  have B0 := Below.refl w.heap.size w
  refine sx_enter (args := [_, _]) 21 Try.func72 rfl rfl rfl ?_
  intro A f
  refine wp_seq ?_
  refine sx_list ?_
  refine l_do f rfl rfl rfl (y_assign rfl rfl) ?_; clear f A; intro A f
  refine wpList_nil ?_
  refine x_tn ?_
  refine wp_seq ?_
  refine wp_seq ?_
  refine sx_list ?_
  refine l_do f rfl rfl rfl (y_move rfl rfl) ?_; clear f A; intro A f
  refine l_do f rfl rfl rfl (y_len rfl rfl (sl rfl)) ?_; clear f A; intro A f
  refine l_do f rfl rfl rfl (y_move rfl rfl) ?_; clear f A; intro A f
  refine wpList_nil ?_
  refine x_tn ?_
  refine wp_block ?_
  refine x_loop (fun n A W => ∃ (k : Nat) (zs : List Zc), n = pn - k ∧ k ≤ pn ∧ Fr A 21 [(0, .pointer (some ⟨hbk, 0, none⟩)), (8, .slice po pn pc), (9, .int .i64 (pn : Nat)), (10, .int .i64 (k : Nat))] ∧ HZ W B gz (y.withZ zs) ∧ (y.withZ zs).hp = backs y.hp (ps.take k) ∧ But gz w W ∧ (∀ b, b < w.heap.size → Away b y → Away b (y.withZ zs))) (n0 := pn) (⟨0, y.zs, rfl, Nat.zero_le _, f.sub ⟨rfl, rfl, rfl, rfl, trivial⟩, HY.below B0, rfl, But.of_below B0, fun _ _ h => h⟩) ?_
  clear f A
  clear B0
  rintro n A W1 ⟨k, zs, hn, hk, f, HYk, hhp, hbt, haw⟩
  have BW := Below.refl W1.heap.size W1
  have hNk := nums_but hN hbt hne2
  have rhk := But.row hbt rh hne
  refine wp_seq ?_
  refine sx_list ?_
  refine l_if _ f rfl rfl rfl (y_lss rfl rfl rfl) ?_ ?_
  · clear f A; intro c2 A f
    refine wpList_nil ?_
    refine x_tn ?_
    refine wp_seq ?_
    refine x_condT f rfl ?_
    refine wp_skip ?_
    refine x_tn ?_
    refine wp_seq ?_
    refine wp_block ?_
    refine wp_seq ?_
    refine sx_list ?_
    obtain ⟨gg, og, vg, hag, c0g, hXg⟩ := hNk.at_.at (k) (by have := hNk.len; omega)
    replace c0g := St.of c0g
    rw [show og + k = og + k * 1 by omega] at c0g
    have hcb : CanBack (y.withZ zs).hp vg 0 := by rw [hhp]; exact canBacks_at hc (by have := hN.len; omega) hXg.out
    refine l_do f rfl rfl rfl (y_index rfl rfl (by first | rfl | assumption) rfl (es rfl) (by omega)) ?_; clear f A; intro A f
    refine l_do f rfl rfl rfl (y_load1 rfl rfl (ag rfl) (by first | assumption | exact St.q c0g BW)) ?_; clear f A; intro A f
    refine l_do f rfl rfl rfl (y_assign rfl rfl) ?_; clear f A; intro A f
    refine wpList_nil ?_
    refine x_tn ?_
    refine wp_seq ?_
    refine sx_list ?_
    refine l_do f rfl rfl rfl (y_move rfl rfl) ?_; clear f A; intro A f
    refine l_do f rfl rfl rfl (y_move rfl rfl) ?_; clear f A; intro A f
    refine l_call f rfl rfl rfl (IsCall.mk' (cap := []) rfl rfl rfl) (pl rfl) (pBack_ok _ B gz hbk (y.withZ zs) vg 0 (row_next rhk BW) (HYk.below BW) hne hcb) ?_
    clear f A
    rintro _ W3 ⟨rfl, zk, hzk, HY2, hb2, haw2⟩
    refine ⟨_, rfl, ?_⟩
    intro A f
    have hbt2 := hbt.trans hb2
    refine l_do f rfl rfl rfl (y_assign rfl rfl) ?_; clear f A; intro A f
    refine wpList_nil ?_
    refine x_tn ?_
    refine wp_seq ?_
    refine sx_list ?_
    refine l_do f rfl rfl rfl (y_move rfl rfl) ?_; clear f A; intro A f
    refine l_if _ f rfl rfl rfl (y_neq rfl rfl rfl) ?_ ?_
    · intro c4; exfalso; omega
    · clear f A; intro c4 A f
      refine wpList_nil ?_
      refine x_tn ?_
      refine x_condF f rfl ?_
      refine wp_skip ?_
      refine x_bn ?_
      refine x_tn ?_
      refine sx_list ?_
      refine l_do f rfl rfl rfl (y_add rfl rfl rfl rfl (by omega)) ?_; clear f A; intro A f
      refine l_do f rfl rfl rfl (y_move rfl rfl) ?_; clear f A; intro A f
      refine wpList_nil ?_
      refine x_tn ?_
      exact ⟨pn - (k + 1), by omega, k + 1, _, rfl, by omega, f.sub ⟨rfl, rfl, rfl, rfl, trivial⟩, HY2, (setZ_hp hzk).trans (by rw [hhp, backs_take (by have := hN.len; omega) hXg.out]), hbt2, fun b hb h => haw2 b (by have := hbt.size; have := BW.size; omega) (haw b hb h)⟩
  · clear f A; intro c2 A f
    refine wpList_nil ?_
    refine x_tn ?_
    refine wp_seq ?_
    refine x_condF f rfl ?_
    refine wp_exit ?_
    refine x_te ?_
    refine x_te ?_
    refine x_bh ?_
    refine x_tn ?_
    refine wp_seq ?_
    refine sx_list ?_
    refine l_do f rfl rfl rfl (y_assign rfl rfl) ?_; clear f A; intro A f
    refine wpList_nil ?_
    refine x_tn ?_
    refine wp_ret ?_
    refine x_ret1 f rfl rfl ?_
    -- return 0: ¬c2@11
    exact ⟨rfl, zs, by rw [hhp, List.take_of_length_le (by have := hN.len; omega)], HYk, hbt, haw⟩


/-- The pages of the first k lists. -/
def pgsOf (y : Hx) (k : Nat) : List Int := (y.ls.take k).flatMap (fun l => l.l.pages)
theorem pgs_succ {y : Hx} {w : World} (h : y.At w) {pgs : Nat → List Int} (hp : pgs = pgsOf y) {k : Nat} (hk : k < y.ln) {c z t : Int} {pages : List Int} {po : Option Addr} {pn pc : Nat} (hX : y.ls.getD k .zero = ⟨⟨c, z, t, pages⟩, po, pn, pc⟩) : pgs k ++ pages = pgs (k + 1) := by
  have hl := h.lists.len
  subst hp
  unfold pgsOf
  rw [List.getD_eq_getElem?_getD, List.getElem?_eq_getElem (by omega)] at hX
  simp only [Option.getD_some] at hX
  rw [List.take_succ_eq_append_getElem (by omega), List.flatMap_append, hX]
  simp
theorem pgs_split {y : Hx} {w : World} (h : y.At w) {pgs : Nat → List Int} (hp : pgs = pgsOf y) {k : Nat} (hk : k < y.ln) {c z t : Int} {pages : List Int} {po : Option Addr} {pn pc : Nat} (hX : y.ls.getD k .zero = ⟨⟨c, z, t, pages⟩, po, pn, pc⟩) :
    y.hp.lists.flatMap (·.pages) = (pgs k ++ pages) ++ (y.ls.drop (k + 1)).flatMap (fun l => l.l.pages) := by
  rw [pgs_succ h hp hk hX]
  subst hp
  unfold pgsOf
  show (y.ls.map (·.l)).flatMap _ = _
  rw [List.flatMap_map, ← List.flatMap_append, List.take_append_drop]
theorem pgs_all {y : Hx} {w : World} (h : y.At w) {pgs : Nat → List Int} (hp : pgs = pgsOf y) {k : Nat} (hk : y.ln ≤ k) : pgs k = y.hp.lists.flatMap (·.pages) := by
  have hl := h.lists.len
  subst hp
  unfold pgsOf
  show _ = (y.ls.map (·.l)).flatMap _
  rw [List.flatMap_map, List.take_of_length_le (by omega)]
/-- The same heap without lists. -/
def Kit.Hx.noLists (y : Hx) : Hx := { y with ls := [], lo := none, ln := 0, lc := 0 }
theorem Away.noLists {b : Nat} {y : Hx} (h : Away b y) : Away b y.noLists :=
  ⟨h.f, h.t, h.m, fun h0 => absurd h0 (by simp [Kit.Hx.noLists]), fun l hl => (by cases hl), h.v⟩
theorem HZ.noLists {w : World} {B gz : Nat} {y : Hx} (h : HZ w B gz y) : HZ w B gz y.noLists :=
  ⟨h.oz, h.ez, ⟨h.at_.zones, h.at_.mins, Lsts.nil w, h.at_.live⟩, ⟨h.aw.f, h.aw.t, h.aw.m, fun h0 => absurd h0 (by simp [Kit.Hx.noLists]), fun l hl => (by cases hl), h.aw.v⟩, h.gB⟩

set_option maxRecDepth 10000 in
set_option maxHeartbeats 4000000 in
theorem pdrain_ok (w : World) (B gz hbk : Nat) (y : Hx) (rh : w.heap[hbk]? = some (.cells #[.slice y.zo y.zn y.zc, .slice y.mo y.mn y.mc, .int .i64 y.cpus, .slice y.lo y.ln y.lc, .slice y.vo y.vn y.vc] 28 (0, 0))) (HY : HZ w B gz y) (hne : hbk ≠ gz) (ha : Away hbk y) (hc : CanBacks y.hp (y.hp.lists.flatMap (·.pages))) :
    Calls Try.prog 55 #[.pointer (some ⟨hbk, 0, none⟩)] w fun e w' => e = .returned (.int .i64 0) ∧ ∃ zs, (y.withZ zs).hp = backs y.hp (y.hp.lists.flatMap (·.pages)) ∧ HZ w' B gz (y.withZ zs).noLists ∧ w'.heap[hbk]? = some (.cells #[.slice y.zo y.zn y.zc, .slice y.mo y.mn y.mc, .int .i64 y.cpus, .slice none 0 0, .slice y.vo y.vn y.vc] 28 (0, 0)) ∧ Bu2 gz hbk w w' ∧ (∀ b, b < w.heap.size → Away b y → Away b (y.withZ zs)) := by
  have lr := HY.at_.lists.reach
  obtain ⟨pgs, hpg⟩ : ∃ f, f = pgsOf y := ⟨_, rfl⟩
  have B0 := Below.refl w.heap.size w
  refine sx_enter (args := [_]) 26 Try.func55 rfl rfl rfl ?_
  intro A f
  refine wp_seq ?_
  refine sx_list ?_
  refine l_do f rfl rfl rfl (y_assign rfl rfl) ?_; clear f A; intro A f
  refine wpList_nil ?_
  refine x_tn ?_
  refine wp_seq ?_
  refine wp_seq ?_
  refine sx_list ?_
  refine l_do f rfl rfl rfl (y_move rfl rfl) ?_; clear f A; intro A f
  refine l_do f rfl rfl rfl (y_nil rfl rfl) ?_; clear f A; intro A f
  refine l_do f rfl rfl rfl (y_field rfl rfl (fo rfl)) ?_; clear f A; intro A f
  refine l_do f rfl rfl rfl (y_load1 rfl rfl (ag rfl) (rowl (rowq rh) rfl)) ?_; clear f A; intro A f
  refine l_do f rfl rfl rfl (y_len rfl rfl (sl rfl)) ?_; clear f A; intro A f
  refine l_do f rfl rfl rfl (y_move rfl rfl) ?_; clear f A; intro A f
  refine wpList_nil ?_
  refine x_tn ?_
  refine wp_block ?_
  have hL0 := HY.at_
  refine x_loop (fun n A W => ∃ (k : Nat) (zs : List Zc), n = y.ln - k ∧ k ≤ y.ln ∧ Fr A 26 [(0, .pointer (some ⟨hbk, 0, none⟩)), (9, .slice y.lo y.ln y.lc), (10, .int .i64 (y.ln : Nat)), (11, .int .i64 (k : Nat))] ∧ HZ W B gz (y.withZ zs) ∧ (y.withZ zs).hp = backs y.hp (pgs k) ∧ But gz w W ∧ (∀ b, b < w.heap.size → Away b y → Away b (y.withZ zs))) (n0 := y.ln) (⟨0, y.zs, rfl, Nat.zero_le _, f.sub ⟨rfl, rfl, rfl, rfl, trivial⟩, HY.below B0, by rw [hpg]; rfl, But.of_below B0, fun _ _ h => h⟩) ?_
  clear f A
  clear B0
  rintro n A W1 ⟨k, zs, hn, hk, f, HYk, hhp, hbt, haw⟩
  have BW := Below.refl W1.heap.size W1
  have rhk := But.row hbt rh hne
  refine wp_seq ?_
  refine sx_list ?_
  refine l_if _ f rfl rfl rfl (y_lss rfl rfl rfl) ?_ ?_
  · clear f A; intro c2 A f
    refine wpList_nil ?_
    refine x_tn ?_
    refine wp_seq ?_
    refine x_condT f rfl ?_
    refine wp_skip ?_
    refine x_tn ?_
    refine wp_seq ?_
    refine wp_block ?_
    refine wp_seq ?_
    refine sx_list ?_
    obtain ⟨gl, ol, lcl, lzl, ltl, lpl, pol, pnl, pcl, hal, c0l, c1l, c2l, c3l, hatl, hXl⟩ := HYk.at_.lists.at (k) (show k < y.ln by omega)
    replace c0l := St.of c0l; replace c1l := St.of c1l; replace c2l := St.of c2l; replace c3l := St.of c3l
    have hXl2 : y.ls.getD k .zero = ⟨⟨lcl, lzl, ltl, lpl⟩, pol, pnl, pcl⟩ := hXl.out
    have hml : (⟨⟨lcl, lzl, ltl, lpl⟩, pol, pnl, pcl⟩ : Lc) ∈ y.ls := by rw [← hXl2]; exact getD_mem (by have := HY.at_.lists.len; omega)
    have hNe : 0 < lpl.length → ∀ a, pol = some a → a.block ≠ gz := fun h0 a ha => HY.aw.p _ hml h0 a ha
    have hpk : pgs k ++ lpl = pgs (k + 1) := pgs_succ hL0 hpg (by omega) hXl2
    have hcb : CanBacks (y.withZ zs).hp lpl := by
      rw [hhp]
      have e := hc
      rw [pgs_split hL0 hpg (show k < y.ln by omega) hXl2, canBacks_append] at e
      rw [canBacks_append] at e
      exact e.1.2
    refine l_do f rfl rfl rfl (y_index rfl rfl (by first | rfl | assumption) rfl (es rfl) (by omega)) ?_; clear f A; intro A f
    refine l_do f rfl rfl rfl (y_loadN (vs := [_, _, _, _]) rfl rfl (ag rfl) rfl ⟨(by first | assumption | exact St.q c0l BW | exact St.q c1l BW | exact St.q c2l BW | exact St.q c3l BW), (by first | assumption | exact St.q c0l BW | exact St.q c1l BW | exact St.q c2l BW | exact St.q c3l BW), (by first | assumption | exact St.q c0l BW | exact St.q c1l BW | exact St.q c2l BW | exact St.q c3l BW), (by first | assumption | exact St.q c0l BW | exact St.q c1l BW | exact St.q c2l BW | exact St.q c3l BW), trivial⟩) ?_; clear f A; intro A f
    refine l_as (z := .agg #[.int .i64 0, .int .i64 0, .int .i64 0, .slice none 0 0]) f rfl rfl rfl rfl (by kernel_rfl) rfl rfl (fun _ => rfl) (fun _ => rfl) rfl (by intro u hu; simp [Value.cells] at hu; rcases hu with rfl | rfl | rfl | rfl <;> rfl) ?_; clear f A; intro b3 W4 eb3 hb5 rb3 A f
    dsimp only [Value.cells] at rb3
    have hpb3 := hb5
    have o_hbk_b3 : hbk < b3 := by have := row_lt rhk; omega
    have z_BW_b3 := BW.size; rw [eb3] at z_BW_b3
    replace BW := Below.next BW hb5; replace HYk := HYk.below hb5; replace hbt := hbt.gr hb5; replace rhk := row_next rhk hb5
    refine wpList_nil ?_
    refine x_tn ?_
    refine wp_seq ?_
    refine sx_list ?_
    refine l_do f rfl rfl rfl (y_move rfl rfl) ?_; clear f A; intro A f
    refine l_do f rfl rfl rfl (y_field rfl rfl (fo rfl)) ?_; clear f A; intro A f
    have hNl : Nums _ pol pnl lpl := hatl.below BW
    refine l_do f rfl rfl rfl (y_load1 rfl rfl (ag rfl) (rowl (rowq rb3) rfl)) ?_; clear f A; intro A f
    refine l_call f rfl rfl rfl (IsCall.mk' (cap := []) rfl rfl rfl) (pl rfl) (pBackAll_ok _ B gz hbk (y.withZ zs) pol pnl pcl lpl rhk HYk hne hNl hNe hcb) ?_
    clear f A
    rintro _ W6 ⟨rfl, zk, hzk, HY2, hb2, haw2⟩
    refine ⟨_, rfl, ?_⟩
    intro A f
    have hbt2 := hbt.trans (hb2)
    refine l_do f rfl rfl rfl (y_assign rfl rfl) ?_; clear f A; intro A f
    refine wpList_nil ?_
    refine x_tn ?_
    refine wp_seq ?_
    refine sx_list ?_
    refine l_do f rfl rfl rfl (y_move rfl rfl) ?_; clear f A; intro A f
    refine l_if _ f rfl rfl rfl (y_neq rfl rfl rfl) ?_ ?_
    · intro c7; exfalso; omega
    · clear f A; intro c7 A f
      refine wpList_nil ?_
      refine x_tn ?_
      refine x_condF f rfl ?_
      refine wp_skip ?_
      refine x_bn ?_
      refine x_tn ?_
      refine sx_list ?_
      refine l_do f rfl rfl rfl (y_add rfl rfl rfl rfl (by omega)) ?_; clear f A; intro A f
      refine l_do f rfl rfl rfl (y_move rfl rfl) ?_; clear f A; intro A f
      refine wpList_nil ?_
      refine x_tn ?_
      exact ⟨y.ln - (k + 1), by omega, k + 1, zk, rfl, by omega, f.sub ⟨rfl, rfl, rfl, rfl, trivial⟩, HY2, hzk.trans (by rw [hhp, ← backs_append, hpk]), hbt2, fun b hb h => haw2 b (by have := hbt.size; have := BW.size; omega) (haw b hb h)⟩
  · clear f A; intro c2 A f
    refine wpList_nil ?_
    refine x_tn ?_
    refine wp_seq ?_
    refine x_condF f rfl ?_
    refine wp_exit ?_
    refine x_te ?_
    refine x_te ?_
    refine x_bh ?_
    refine x_tn ?_
    refine wp_seq ?_
    refine sx_list ?_
    have hbe := hbt
    refine l_do f rfl rfl rfl (y_move rfl rfl) ?_; clear f A; intro A f
    refine l_do f rfl rfl rfl (y_nil rfl rfl) ?_; clear f A; intro A f
    refine l_do f rfl rfl rfl (y_field rfl rfl (fo rfl)) ?_; clear f A; intro A f
    refine l_store f rfl rfl rfl rfl rfl rhk (sz rfl) rfl (Nat.le_of_ble_eq_true rfl) rfl ?_
    clear rhk; intro W8 hb9 rhk; dsimp only [setL, over, Value.cells] at rhk; have hst := hb9
    refine wpList_nil ?_
    refine x_tn ?_
    refine wp_seq ?_
    refine sx_list ?_
    refine l_do f rfl rfl rfl (y_assign rfl rfl) ?_; clear f A; intro A f
    refine wpList_nil ?_
    refine x_tn ?_
    refine wp_ret ?_
    refine x_ret1 f rfl rfl ?_
    -- return 0: ¬c2@12
    exact ⟨rfl, zs, by rw [hhp, pgs_all hL0 hpg (by omega)], (HYk.but hst hne (haw _ (row_lt rh) ha)).noLists, rhk, (Bu2.of_but_g hbe).trans (Bu2.of_but_z hst), haw⟩


end Go.Proofs.Ytbjlbmofdnkmiaa

/-
  OWN TEXT. Contracts of the code: pages.back, backAll; where the zones' data then lie (written by bkf.py out of HcBack, HcDrain).
-/
namespace Go.Proofs.Ytbjlbmofdnkmiaa
open Go Go.RowKit Go.Proofs.Ytbjlbmofdnkmiaa.Kit

/-- No data of a zone lie in block b. -/
structure AwayF (b : Nat) (y : Hx) : Prop where
  f : ∀ z ∈ y.zs, 0 < z.z.free.length → ∀ a, z.fo = some a → a.block ≠ b
  t : ∀ z ∈ y.zs, 0 < z.z.types.length → ∀ a, z.to_ = some a → a.block ≠ b
theorem AwayF.setZ {b i : Nat} {y : Hx} {z : Zc} (h : AwayF b y) (h1 : ∀ a, z.fo = some a → a.block ≠ b) (h2 : ∀ a, z.to_ = some a → a.block ≠ b) : AwayF b (y.setZ i z) := by
  refine ⟨fun c hc h0 => ?_, fun c hc h0 => ?_⟩ <;> rcases List.mem_or_eq_of_mem_set hc with hc | rfl
  · exact h.f c hc h0
  · exact h1
  · exact h.t c hc h0
  · exact h2

set_option maxRecDepth 10000 in
set_option maxHeartbeats 4000000 in
theorem pBackF_ok (w : World) (B gz hbk : Nat) (y : Hx) (p o : Int) (rh : w.heap[hbk]? = some (.cells #[.slice y.zo y.zn y.zc, .slice y.mo y.mn y.mc, .int .i64 y.cpus, .slice y.lo y.ln y.lc, .slice y.vo y.vn y.vc] 28 (0, 0))) (HY : HZ w B gz y) (hne : hbk ≠ gz) (hc : CanBack y.hp p o) :
    Calls Try.prog 70 #[.pointer (some ⟨hbk, 0, none⟩), .int .i64 p, .int .i64 o] w fun e w' => e = .returned (.int .i64 0) ∧ ∃ z, z.z = backZ (y.zs.getD (zIdx y.hp p) .zero).z p o ∧ HZ w' B gz (y.setZ (zIdx y.hp p) z) ∧ But gz w w' ∧ (∀ b, b < w.heap.size → AwayF b y → AwayF b (y.setZ (zIdx y.hp p) z)) := by
  have HY0 := HY.at_
  have hin : zIdx y.hp p < y.zn := by have := zIdx_lt y.hp p; have e : y.hp.zones.length = y.zs.length := (by show (y.zs.map _).length = _; rw [List.length_map]); have := hc.n; have := HY.at_.zones.len; omega
  have hzn : y.zn = 2 := by have e : y.hp.zones.length = y.zs.length := (by show (y.zs.map _).length = _; rw [List.length_map]); have := hc.n; have := HY.at_.zones.len; omega
  have hgz : gz < w.heap.size := HY.lt (by omega)
  have hM := hc.m
  have hA := hc.i
  have hv := hc.v
  rw [hp_zone] at hM hA hv
  have hrl := row_lt rh
  obtain ⟨i, hi⟩ : ∃ i, zIdx y.hp p = i := ⟨_, rfl⟩
  rw [hi] at hin hM hA hv
  have ez := HY.ez
  obtain ⟨gi, oi, zi, foi, fni, fci, toi, tni, tci, hai, c0i, c1i, c2i, c3i, hati, hXi⟩ := HY.at_.zones.at (i) (by omega)
  replace c0i := St.of c0i; replace c1i := St.of c1i; replace c2i := St.of c2i; replace c3i := St.of c3i
  have hXe : (y.zs.getD i .zero).z = zi := by rw [hXi.out]
  rw [ez] at hai; simp only [Option.some.injEq, Addr.mk.injEq, and_true] at hai; obtain ⟨rfl, rfl⟩ := hai
  have B0 := Below.refl w.heap.size w
  refine sx_enter (args := [_, _, _]) 38 Try.func70 rfl rfl rfl ?_
  intro A f
  refine wp_seq ?_
  refine sx_list ?_
  refine l_do f rfl rfl rfl (y_assign rfl rfl) ?_; clear f A; intro A f
  refine wpList_nil ?_
  refine x_tn ?_
  refine wp_seq ?_
  refine sx_list ?_
  refine l_do f rfl rfl rfl (y_move rfl rfl) ?_; clear f A; intro A f
  refine l_do f rfl rfl rfl (y_nil rfl rfl) ?_; clear f A; intro A f
  refine l_do f rfl rfl rfl (y_loadN (vs := [_, _, _, _, _]) rfl rfl (ag rfl) rfl (rowls (rowq rh) _ _ ⟨rfl, rfl, rfl, rfl, rfl, trivial⟩)) ?_; clear f A; intro A f
  refine l_do f rfl rfl rfl (y_move rfl rfl) ?_; clear f A; intro A f
  refine l_call f rfl rfl rfl (IsCall.mk' (cap := []) rfl rfl rfl) (pl rfl) (by have e := pZoneOf_c _ y p HY.at_ hzn; rw [hi] at e; exact e) ?_; clear f A; rintro _ W2 ⟨rfl, hb1⟩; refine ⟨_, rfl, ?_⟩; intro A f; replace B0 := Below.next B0 hb1; replace HY := HY.below hb1; replace rh := row_next rh hb1
  refine l_do f rfl rfl rfl (y_assign rfl rfl) ?_; clear f A; intro A f
  refine wpList_nil ?_
  refine x_tn ?_
  refine wp_seq ?_
  refine sx_list ?_
  refine l_do f rfl rfl rfl (y_move rfl rfl) ?_; clear f A; intro A f
  refine l_do f rfl rfl rfl (y_nil rfl rfl) ?_; clear f A; intro A f
  refine l_do f rfl rfl rfl (y_field rfl rfl (fo rfl)) ?_; clear f A; intro A f
  refine l_do f rfl rfl rfl (y_load1 rfl rfl (ag rfl) (rowl (rowq rh) rfl)) ?_; clear f A; intro A f
  refine l_do f rfl rfl rfl (y_move rfl rfl) ?_; clear f A; intro A f
  refine l_do f rfl rfl rfl (y_index rfl rfl (by first | rfl | assumption) rfl (es rfl) (by omega)) ?_; clear f A; intro A f
  refine l_do f rfl rfl rfl (y_loadN (vs := [_, _, _, _]) rfl rfl (ag rfl) rfl ⟨(by first | assumption | exact St.q c0i B0 | exact St.q c1i B0 | exact St.q c2i B0 | exact St.q c3i B0), (by first | assumption | exact St.q c0i B0 | exact St.q c1i B0 | exact St.q c2i B0 | exact St.q c3i B0), (by first | assumption | exact St.q c0i B0 | exact St.q c1i B0 | exact St.q c2i B0 | exact St.q c3i B0), (by first | assumption | exact St.q c0i B0 | exact St.q c1i B0 | exact St.q c2i B0 | exact St.q c3i B0), trivial⟩) ?_; clear f A; intro A f
  refine l_do f rfl rfl rfl (y_move rfl rfl) ?_; clear f A; intro A f
  refine l_do f rfl rfl rfl (y_move rfl rfl) ?_; clear f A; intro A f
  have lz_hbk := row_lt rh
  refine l_call f rfl rfl rfl (IsCall.mk' (cap := []) rfl rfl rfl) (pl rfl) (zBack_ok _ _ _ _ _ _ _ zi p o (hati.below B0) (hXe ▸ hM) (hXe ▸ hA) (hXe ▸ hv)) ?_
  clear f A
  rintro _ W4 ⟨⟨fo2, fn2, fc2, to2, tn2, tc2, rfl, hz2, hf2, ht2⟩, hb3⟩
  refine ⟨_, rfl, ?_⟩
  have hg1 := B0.size
  intro A f
  replace B0 := Below.next B0 hb3; replace HY := HY.below hb3; replace rh := row_next rh hb3
  obtain ⟨Y, hY⟩ : ∃ Y, backZ zi p o = Y := ⟨_, rfl⟩
  rw [hY] at f hz2
  refine l_do f rfl rfl rfl (y_move rfl rfl) ?_; clear f A; intro A f
  refine l_do f rfl rfl rfl (y_ext rfl rfl rfl) ?_; clear f A; intro A f
  refine l_do f rfl rfl rfl (y_ext rfl rfl rfl) ?_; clear f A; intro A f
  refine l_as (z := .agg #[.int .i64 0, .int .i64 0, .slice none 0 0, .slice none 0 0]) f rfl rfl rfl rfl (by kernel_rfl) rfl rfl (fun _ => rfl) (fun _ => rfl) rfl (by intro u hu; simp [Value.cells] at hu; rcases hu with rfl | rfl | rfl | rfl <;> rfl) ?_; clear f A; intro b5 W6 eb5 hb7 rb5 A f
  dsimp only [Value.cells] at rb5
  have hpb5 := hb7
  have o_hbk_b5 : hbk < b5 := by have := row_lt rh; omega
  have z_B0_b5 := B0.size; rw [eb5] at z_B0_b5
  replace B0 := Below.next B0 hb7; replace HY := HY.below hb7; replace hz2 := hz2.below hb7; replace rh := row_next rh hb7
  refine l_do f rfl rfl rfl (y_assign rfl rfl) ?_; clear f A; intro A f
  refine wpList_nil ?_
  refine x_tn ?_
  refine wp_seq ?_
  refine wp_seq ?_
  refine sx_list ?_
  refine l_do f rfl rfl rfl (y_move rfl rfl) ?_; clear f A; intro A f
  refine l_if _ f rfl rfl rfl (y_neq rfl rfl rfl) ?_ ?_
  · intro c8; exfalso; omega
  · clear f A; intro c8 A f
    refine wpList_nil ?_
    refine x_tn ?_
    refine x_condF f rfl ?_
    refine wp_skip ?_
    refine x_tn ?_
    refine wp_seq ?_
    have q_hbk := fun wx (h : But gz W6 wx) => But.row h rh (by omega)
    have q_b5 := fun wx (h : But gz W6 wx) => But.row h rb5 (by omega)
    have hSB : Below w.heap.size w W6 := B0
    refine sx_held (fun wx => But gz W6 wx) [7] (by kernel_rfl) (by kernel_rfl) (blind_then (blind_body)) (But.of_below ((Below.refl _ _).drew)) ?_
    generalize hWd : ({ W6 with drawn := W6.drawn + 1 } : World) = W9
    have hS := but_start gz hWd
    have hdr := drawn_b hWd
    clear hWd
    replace B0 := Below.next B0 hdr; replace HY := HY.below hdr; replace hz2 := hz2.below hdr; replace rh := row_next rh hdr; replace rb5 := row_next rb5 hdr
    refine h_do f rfl rfl rfl rfl (y_move rfl rfl) ?_; clear f A; intro A f
    refine h_do f rfl rfl rfl rfl (y_nil rfl rfl) ?_; clear f A; intro A f
    refine h_do f rfl rfl rfl rfl (y_field rfl rfl (fo rfl)) ?_; clear f A; intro A f
    refine h_do f rfl rfl rfl rfl (y_load1 rfl rfl (ag rfl) (rowl q_hbk rfl)) ?_; clear f A; intro A f
    refine h_do f rfl rfl rfl rfl (y_move rfl rfl) ?_; clear f A; intro A f
    refine h_do f rfl rfl rfl rfl (y_loadN (vs := [_, _, _, _]) rfl rfl (ag rfl) rfl (rowls q_b5 _ _ ⟨rfl, rfl, rfl, rfl, trivial⟩)) ?_; clear f A; intro A f
    refine h_do f rfl rfl rfl rfl (y_index rfl rfl (by first | rfl | assumption) rfl (es rfl) (by omega)) ?_; clear f A; intro A f
    have oz := HY.oz
    rw [HY.ez] at oz
    refine h_storeR f rfl rfl rfl rfl rfl rfl (own_set4 oz hin (Zc.q ⟨Y, fo2, fn2, fc2, to2, tn2, tc2⟩) (Zc.one _) (sz rfl)) (fun _ h => hS.trans h.1) ?_
    rintro W10 ⟨hb11, ow⟩
    have HY2 := HY.set (i := i) (z := ⟨Y, fo2, fn2, fc2, to2, tn2, tc2⟩) hz2 (fun a ha e => by have := hf2 a ha; omega) (fun a ha e => by have := ht2 a ha; omega) hb11 (by rw [HY.ez]; exact ow)
    have hSf := hS.trans hb11
    refine h_nil ?_
    refine x_tn ?_
    refine wp_seq ?_
    refine sx_list ?_
    refine l_do f rfl rfl rfl (y_assign rfl rfl) ?_; clear f A; intro A f
    refine wpList_nil ?_
    refine x_tn ?_
    refine wp_ret ?_
    refine x_ret1 f rfl rfl ?_
    -- return 0: ¬c8@29
    exact ⟨rfl, ⟨Y, fo2, fn2, fc2, to2, tn2, tc2⟩, by rw [hi, hXe]; exact hY.symm, by rw [hi]; exact HY2, ((But.of_below hSB).trans hSf), fun (b : Nat) (hb : b < w.heap.size) (ha : AwayF b y) => AwayF.setZ (b := b) (z := ⟨Y, fo2, fn2, fc2, to2, tn2, tc2⟩) ha (fun a h => by have := hf2 a h; omega) (fun a h => by have := ht2 a h; omega)⟩

set_option maxRecDepth 10000 in
set_option maxHeartbeats 4000000 in
theorem pBackAllF_ok (w : World) (B gz hbk : Nat) (y : Hx) (po : Option Addr) (pn pc : Nat) (ps : List Int) (rh : w.heap[hbk]? = some (.cells #[.slice y.zo y.zn y.zc, .slice y.mo y.mn y.mc, .int .i64 y.cpus, .slice y.lo y.ln y.lc, .slice y.vo y.vn y.vc] 28 (0, 0))) (HY : HZ w B gz y) (hne : hbk ≠ gz) (hN : Nums w po pn ps) (hne2 : 0 < ps.length → ∀ a, po = some a → a.block ≠ gz) (hc : CanBacks y.hp ps) :
    Calls Try.prog 72 #[.pointer (some ⟨hbk, 0, none⟩), .slice po pn pc] w fun e w' => e = .returned (.int .i64 0) ∧ ∃ zs, (y.withZ zs).hp = backs y.hp ps ∧ HZ w' B gz (y.withZ zs) ∧ But gz w w' ∧ (∀ b, b < w.heap.size → AwayF b y → AwayF b (y.withZ zs)) := by
  have nr := hN.reach
  have B0 := Below.refl w.heap.size w
  refine sx_enter (args := [_, _]) 21 Try.func72 rfl rfl rfl ?_
  intro A f
  refine wp_seq ?_
  refine sx_list ?_
  refine l_do f rfl rfl rfl (y_assign rfl rfl) ?_; clear f A; intro A f
  refine wpList_nil ?_
  refine x_tn ?_
  refine wp_seq ?_
  refine wp_seq ?_
  refine sx_list ?_
  refine l_do f rfl rfl rfl (y_move rfl rfl) ?_; clear f A; intro A f
  refine l_do f rfl rfl rfl (y_len rfl rfl (sl rfl)) ?_; clear f A; intro A f
  refine l_do f rfl rfl rfl (y_move rfl rfl) ?_; clear f A; intro A f
  refine wpList_nil ?_
  refine x_tn ?_
  refine wp_block ?_
  refine x_loop (fun n A W => ∃ (k : Nat) (zs : List Zc), n = pn - k ∧ k ≤ pn ∧ Fr A 21 [(0, .pointer (some ⟨hbk, 0, none⟩)), (8, .slice po pn pc), (9, .int .i64 (pn : Nat)), (10, .int .i64 (k : Nat))] ∧ HZ W B gz (y.withZ zs) ∧ (y.withZ zs).hp = backs y.hp (ps.take k) ∧ But gz w W ∧ (∀ b, b < w.heap.size → AwayF b y → AwayF b (y.withZ zs))) (n0 := pn) (⟨0, y.zs, rfl, Nat.zero_le _, f.sub ⟨rfl, rfl, rfl, rfl, trivial⟩, HY.below B0, rfl, But.of_below B0, fun _ _ h => h⟩) ?_
  clear f A
  clear B0
  rintro n A W1 ⟨k, zs, hn, hk, f, HYk, hhp, hbt, haw⟩
  have BW := Below.refl W1.heap.size W1
  have hNk := nums_but hN hbt hne2
  have rhk := But.row hbt rh hne
  refine wp_seq ?_
  refine sx_list ?_
  refine l_if _ f rfl rfl rfl (y_lss rfl rfl rfl) ?_ ?_
  · clear f A; intro c2 A f
    refine wpList_nil ?_
    refine x_tn ?_
    refine wp_seq ?_
    refine x_condT f rfl ?_
    refine wp_skip ?_
    refine x_tn ?_
    refine wp_seq ?_
    refine wp_block ?_
    refine wp_seq ?_
    refine sx_list ?_
    obtain ⟨gg, og, vg, hag, c0g, hXg⟩ := hNk.at_.at (k) (by have := hNk.len; omega)
    replace c0g := St.of c0g
    rw [show og + k = og + k * 1 by omega] at c0g
    have hcb : CanBack (y.withZ zs).hp vg 0 := by rw [hhp]; exact canBacks_at hc (by have := hN.len; omega) hXg.out
    refine l_do f rfl rfl rfl (y_index rfl rfl (by first | rfl | assumption) rfl (es rfl) (by omega)) ?_; clear f A; intro A f
    refine l_do f rfl rfl rfl (y_load1 rfl rfl (ag rfl) (by first | assumption | exact St.q c0g BW)) ?_; clear f A; intro A f
    refine l_do f rfl rfl rfl (y_assign rfl rfl) ?_; clear f A; intro A f
    refine wpList_nil ?_
    refine x_tn ?_
    refine wp_seq ?_
    refine sx_list ?_
    refine l_do f rfl rfl rfl (y_move rfl rfl) ?_; clear f A; intro A f
    refine l_do f rfl rfl rfl (y_move rfl rfl) ?_; clear f A; intro A f
    refine l_call f rfl rfl rfl (IsCall.mk' (cap := []) rfl rfl rfl) (pl rfl) (pBackF_ok _ B gz hbk (y.withZ zs) vg 0 (row_next rhk BW) (HYk.below BW) hne hcb) ?_
    clear f A
    rintro _ W3 ⟨rfl, zk, hzk, HY2, hb2, haw2⟩
    refine ⟨_, rfl, ?_⟩
    intro A f
    have hbt2 := hbt.trans hb2
    refine l_do f rfl rfl rfl (y_assign rfl rfl) ?_; clear f A; intro A f
    refine wpList_nil ?_
    refine x_tn ?_
    refine wp_seq ?_
    refine sx_list ?_
    refine l_do f rfl rfl rfl (y_move rfl rfl) ?_; clear f A; intro A f
    refine l_if _ f rfl rfl rfl (y_neq rfl rfl rfl) ?_ ?_
    · intro c4; exfalso; omega
    · clear f A; intro c4 A f
      refine wpList_nil ?_
      refine x_tn ?_
      refine x_condF f rfl ?_
      refine wp_skip ?_
      refine x_bn ?_
      refine x_tn ?_
      refine sx_list ?_
      refine l_do f rfl rfl rfl (y_add rfl rfl rfl rfl (by omega)) ?_; clear f A; intro A f
      refine l_do f rfl rfl rfl (y_move rfl rfl) ?_; clear f A; intro A f
      refine wpList_nil ?_
      refine x_tn ?_
      exact ⟨pn - (k + 1), by omega, k + 1, _, rfl, by omega, f.sub ⟨rfl, rfl, rfl, rfl, trivial⟩, HY2, (setZ_hp hzk).trans (by rw [hhp, backs_take (by have := hN.len; omega) hXg.out]), hbt2, fun b hb h => haw2 b (by have := hbt.size; have := BW.size; omega) (haw b hb h)⟩
  · clear f A; intro c2 A f
    refine wpList_nil ?_
    refine x_tn ?_
    refine wp_seq ?_
    refine x_condF f rfl ?_
    refine wp_exit ?_
    refine x_te ?_
    refine x_te ?_
    refine x_bh ?_
    refine x_tn ?_
    refine wp_seq ?_
    refine sx_list ?_
    refine l_do f rfl rfl rfl (y_assign rfl rfl) ?_; clear f A; intro A f
    refine wpList_nil ?_
    refine x_tn ?_
    refine wp_ret ?_
    refine x_ret1 f rfl rfl ?_
    -- return 0: ¬c2@11
    exact ⟨rfl, zs, by rw [hhp, List.take_of_length_le (by have := hN.len; omega)], HYk, hbt, haw⟩



end Go.Proofs.Ytbjlbmofdnkmiaa

/-
  OWN TEXT. Pages come back one by one: plain mathematics.
-/
namespace Go.Proofs.Ytbjlbmofdnkmiaa.Kit

/-- n pages, from p on, come back one by one; none: one of them is free. -/
def giveK : Nat → Zn → Int → Option Zn
  | 0, z, _ => some z
  | n + 1, z, p => if z.free.any (ovl1 (p + pw 0) p) = true then none else giveK n (backZ z p 0) (p + 1)

/-- What may be given. -/
def giveOk (z : Zn) (a s : Int) : Prop := z.f ≤ a ∧ a ≤ z.t ∧ 0 ≤ s ∧ s ≤ z.t - a

theorem page_in {z : Zn} {p : Int} (h1 : z.f ≤ p) (h2 : p < z.t) : blkIn z.f z.t p 0 := ⟨⟨by omega, by omega⟩, h1, by omega, by rw [pw_0]; omega⟩
theorem give_none {n : Nat} {z : Zn} {p : Int} (h : ovlP z.free p 0) : giveK (n + 1) z p = none := by
  unfold giveK
  rw [if_pos ((ovl_any z.free p 0).2 h)]
theorem give_some {n : Nat} {z : Zn} {p : Int} (h : ¬ ovlP z.free p 0) : giveK (n + 1) z p = giveK n (backZ z p 0) (p + 1) := by
  show (if _ then _ else _) = _
  rw [if_neg (fun g => h ((ovl_any z.free p 0).1 g))]

end Go.Proofs.Ytbjlbmofdnkmiaa.Kit

/-
  OWN TEXT. Which free block is taken: plain mathematics.
-/
namespace Go.Proofs.Ytbjlbmofdnkmiaa.Kit

/-- A block of an order and a type. -/
def isT (o t : Int) (b : Bk) : Bool := decide (b.o = o ∧ b.t = t)
/-- The first place at which it holds, or -1. -/
def fidx (g : Bk → Bool) : List Bk → Int
  | [] => -1
  | b :: l => if g b = true then 0 else if fidx g l < 0 then -1 else fidx g l + 1

theorem fidx_none {g : Bk → Bool} {l : List Bk} (h : ∀ j, j < l.length → g (l.getD j .zero) = false) : fidx g l = -1 := by
  induction l with
  | nil => rfl
  | cons b l ih =>
    have h0 : g b = false := by simpa using h 0 (by simp)
    have := ih (fun j hj => by simpa using h (j + 1) (by simpa using hj))
    unfold fidx
    rw [h0, this]
    rfl
theorem fidx_some {g : Bk → Bool} {l : List Bk} {k : Nat} (hk : k < l.length) (h1 : g (l.getD k .zero) = true) (h2 : ∀ j, j < k → g (l.getD j .zero) = false) : fidx g l = k := by
  induction l generalizing k with
  | nil => simp at hk
  | cons b l ih =>
    cases k with
    | zero =>
      have h0 : g b = true := by simpa using h1
      unfold fidx
      rw [if_pos h0]; rfl
    | succ k =>
      have h0 : g b = false := by simpa using h2 0 (by omega)
      have := ih (k := k) (by simpa using hk) (by simpa using h1) (fun j hj => by simpa using h2 (j + 1) (by omega))
      unfold fidx
      rw [h0, this, if_neg (by simp), if_neg (by omega)]
      omega

/-- Of the type itself, from order o on, n orders. -/
def upI (l : List Bk) (t : Int) : Nat → Int → Int
  | 0, _ => -1
  | n + 1, o => if 0 ≤ fidx (isT o t) l then fidx (isT o t) l else upI l t n (o + 1)
/-- Of two others, from order o + n - 1 down to o. -/
def dnI (l : List Bk) (u v o : Int) : Nat → Int
  | 0 => -1
  | n + 1 => if 0 ≤ fidx (isT (o + n) u) l then fidx (isT (o + n) u) l else if 0 ≤ fidx (isT (o + n) v) l then fidx (isT (o + n) v) l else dnI l u v o n
/-- The others, in their order. -/
def other1 (t : Int) : Int := if t = 2 then 0 else 2
def other2 (t : Int) : Int := if t = 1 then 0 else 1
/-- The place of the block that is taken, or -1. -/
def chooseI (l : List Bk) (o t : Int) : Int := if 0 ≤ upI l t (5 - o).toNat o then upI l t (5 - o).toNat o else dnI l (other1 t) (other2 t) o (5 - o).toNat

end Go.Proofs.Ytbjlbmofdnkmiaa.Kit

/-
  OWN TEXT. What stays free of a block that is halved: plain mathematics.
-/
namespace Go.Proofs.Ytbjlbmofdnkmiaa.Kit

/-- The upper halves, by places: m of them, from order o on. -/
def halvesL (a t o : Int) : Nat → List Bk
  | 0 => []
  | m + 1 => halvesL a t o m ++ [⟨a + pw (o + m), o + m, t⟩]
theorem halvesL_len (a t o : Int) (m : Nat) : (halvesL a t o m).length = m := by
  induction m with
  | zero => rfl
  | succ m ih => simp [halvesL, ih]

end Go.Proofs.Ytbjlbmofdnkmiaa.Kit
