/-
  OWN TEXTS, bundled: ZcBack, HcBackF, ZGivP, ZChP, ZHaP, ZTkP, ZTkP2, ZStP, ZTkP3, ZTkQ, ZCnt.
-/
import Derived.Test.YtbjlbmofdnkmiaaPagesFreesPart14
import Derived.Test.YtbjlbmofdnkmiaaPagesFreesPart9
import Derived.Test.YtbjlbmofdnkmiaaPagesFreesPart4
import Derived.Test.YtbjlbmofdnkmiaaPagesFreesPart13
import Derived.Test.YtbjlbmofdnkmiaaPagesFreesPart10
import Derived.Test.YtbjlbmofdnkmiaaPagesFreesPart3
import Derived.Test.YtbjlbmofdnkmiaaPagesFreesPart6

/-
  OWN TEXT. Contracts of the code: buddy.Back.
-/
namespace Go.Proofs.Ytbjlbmofdnkmiaa
open Go Go.RowKit Go.Proofs.Ytbjlbmofdnkmiaa.Kit

set_option maxHeartbeats 1000000 in
theorem zBack_no (w : World) (fo : Option Addr) (fn fc : Nat) (to_ : Option Addr) (tn tc : Nat) (z : Zn) (a o : Int) (h : ZnAt w fo fn to_ tn z) (hf : ZFits z) (hM : ¬ ZMay z) :
    Calls Try.prog 84 #[.agg #[.int .i64 z.f, .int .i64 z.t, .slice fo fn fc, .slice to_ tn tc], .int .i64 a, .int .i64 o] w fun e w' => RetNone 8 e ∧ Below w.heap.size w w' := by
  have I0 := cbI_first w fo fn fc to_ tn tc z h
  have c0 := I0.box.c0
  have c1 := I0.box.c1
  have c2 := I0.box.c2
  have c3 := I0.box.c3
  clear h
  go_enter Try.func84, Try.ntmps84
  go_wp2_with fail
  go_at_call 63
  refine (zCheck_no _ fo fn fc to_ tn tc z I0.zn hf hM).mono ?_
  rintro e w1 ⟨rfl, hb⟩
  have I1 := I0.step hb
  have R1 := I1.res
  obtain ⟨⟨x0, d0⟩, ⟨x1, d1⟩, ⟨x2, d2⟩, ⟨x3, d3⟩, z0, z1, z2, z3⟩ := id R1
  have hB := I1.b
  have hs := I1.size
  clear I0 I1 hb hM hf c0 c1 c2 c3
  go_wp2
  obtain ⟨k0, k1, k2, k3⟩ := res4 R1 (.int .i64 0) (.int .i64 0) (.slice none 0 0) (.slice none 0 0)
  have hbt := but4 w1 (w.heap.size + 1) (.int .i64 0) (.int .i64 0) (.slice none 0 0) (.slice none 0 0)
  exact bodyPost_ret (v := .tuple #[.agg #[.int .i64 0, .int .i64 0, .slice none 0 0, .slice none 0 0], .int .i64 8]) (by simp [results, Try.results84, go_sem, k0, k1, k2, k3]) rfl ⟨rfl, hB.trans (hbt.below (by omega) (by omega))⟩

set_option maxHeartbeats 1000000 in
theorem zBack_range (w : World) (fo : Option Addr) (fn fc : Nat) (to_ : Option Addr) (tn tc : Nat) (z : Zn) (a o : Int) (h : ZnAt w fo fn to_ tn z) (_wa : (Lit.int .i64 a).wf = true) (_wo : (Lit.int .i64 o).wf = true) (hM : ZMay z) (hbk : ¬ blkIn z.f z.t a o) :
    Calls Try.prog 84 #[.agg #[.int .i64 z.f, .int .i64 z.t, .slice fo fn fc, .slice to_ tn tc], .int .i64 a, .int .i64 o] w fun e w' => RetNone 1 e ∧ Below w.heap.size w w' := by
  have I0 := cbI_first w fo fn fc to_ tn tc z h
  have c0 := I0.box.c0
  have c1 := I0.box.c1
  have c2 := I0.box.c2
  have c3 := I0.box.c3
  have hB2 : Hid (blkB z.f z.t a o = false) := by
    show _ = _
    cases hb : blkB z.f z.t a o with
    | false => rfl
    | true => exact absurd ((blkB_iff z.f z.t a o).1 hb) hbk
  clear h hbk
  go_enter Try.func84, Try.ntmps84
  go_wp2_with fail
  go_at_call 63
  refine (zCheck_ok _ fo fn fc to_ tn tc z I0.zn hM).mono ?_
  rintro e w1 ⟨rfl, hb⟩
  have I1 := I0.step hb
  clear I0 hb c0 c1 c2 c3
  have c0 := I1.box.c0
  have c1 := I1.box.c1
  have c2 := I1.box.c2
  have c3 := I1.box.c3
  go_wp2_with fail
  go_at_call 97
  refine (blkMay_any _ z.f z.t fo to_ fn fc tn tc a o hM.new).mono ?_
  rintro e w2 ⟨rfl, hb2⟩
  rw [hB2.out]
  have I2 := I1.step hb2
  have R1 := I2.res
  obtain ⟨⟨x0, d0⟩, ⟨x1, d1⟩, ⟨x2, d2⟩, ⟨x3, d3⟩, z0, z1, z2, z3⟩ := id R1
  have hB := I2.b
  have hs := I2.size
  clear I1 I2 hb2 hM c0 c1 c2 c3
  go_wp2
  obtain ⟨k0, k1, k2, k3⟩ := res4 R1 (.int .i64 0) (.int .i64 0) (.slice none 0 0) (.slice none 0 0)
  have hbt := but4 w2 (w.heap.size + 1) (.int .i64 0) (.int .i64 0) (.slice none 0 0) (.slice none 0 0)
  exact bodyPost_ret (v := .tuple #[.agg #[.int .i64 0, .int .i64 0, .slice none 0 0, .slice none 0 0], .int .i64 1]) (by simp [results, Try.results84, go_sem, k0, k1, k2, k3]) rfl ⟨rfl, hB.trans (hbt.below (by omega) (by omega))⟩

set_option maxHeartbeats 2000000 in
theorem zBack_twice (w : World) (fo : Option Addr) (fn fc : Nat) (to_ : Option Addr) (tn tc : Nat) (z : Zn) (a o : Int) (h : ZnAt w fo fn to_ tn z) (hM : ZMay z) (hA : blkIn z.f z.t a o) (hv : ovlP z.free a o) :
    Calls Try.prog 84 #[.agg #[.int .i64 z.f, .int .i64 z.t, .slice fo fn fc, .slice to_ tn tc], .int .i64 a, .int .i64 o] w fun e w' => RetNone 5 e ∧ Below w.heap.size w w' := by
  have I0 := cbI_first w fo fn fc to_ tn tc z h
  have c0 := I0.box.c0
  have c1 := I0.box.c1
  have c2 := I0.box.c2
  have c3 := I0.box.c3
  have hB2 : Hid (blkB z.f z.t a o = true) := (blkB_iff z.f z.t a o).2 hA
  clear h
  go_enter Try.func84, Try.ntmps84
  go_wp2_with fail
  go_at_call 63
  refine (zCheck_ok _ fo fn fc to_ tn tc z I0.zn hM).mono ?_
  rintro e w1 ⟨rfl, hb⟩
  have I1 := I0.step hb
  clear I0 hb c0 c1 c2 c3
  have c0 := I1.box.c0
  have c1 := I1.box.c1
  have c2 := I1.box.c2
  have c3 := I1.box.c3
  go_wp2_with fail
  go_at_call 97
  refine (blkMay_any _ z.f z.t fo to_ fn fc tn tc a o hM.new).mono ?_
  rintro e w2 ⟨rfl, hb2⟩
  rw [hB2.out]
  have I2 := I1.step hb2
  clear I1 hb2 c0 c1 c2 c3
  have c0 := I2.box.c0
  have c1 := I2.box.c1
  have c2 := I2.box.c2
  have c3 := I2.box.c3
  go_wp2_with fail
  go_at_call 41
  refine (zCopy_own _ fo fn fc to_ tn tc z I2.zn).mono ?_
  rintro e w3 ⟨g, k, rfl, o1, o2, hgk, hb3⟩
  have I3 := I2.step hb3
  have Z4 := zo_new o1 o2 hgk
  have hbx := below_box w3 (.cells #[.int .i64 z.f, .int .i64 z.t, .slice (some ⟨g, 0, none⟩) fn fn, .slice (some ⟨k, 0, none⟩) tn tn] 44)
  have I4 := I3.step hbx
  have HP := put_twice _ _ w3.heap.size g fn fn k tn tn z a o Z4 hM hA hv
  clear I2 I3 hb3 c0 c1 c2 c3 o1 o2 hbx
  go_wp2_with fail
  go_at_call 75
  refine HP.mono ?_
  rintro e w5 ⟨rfl, hb5⟩
  have I5 := I4.step hb5
  have R1 := I5.res
  obtain ⟨⟨x0, d0⟩, ⟨x1, d1⟩, ⟨x2, d2⟩, ⟨x3, d3⟩, z0, z1, z2, z3⟩ := id R1
  have hB := I5.b
  have hs := I5.size
  clear I4 I5 hb5 hM HP Z4
  go_wp2
  obtain ⟨k0, k1, k2, k3⟩ := res4 R1 (.int .i64 0) (.int .i64 0) (.slice none 0 0) (.slice none 0 0)
  have hbt := but4 w5 (w.heap.size + 1) (.int .i64 0) (.int .i64 0) (.slice none 0 0) (.slice none 0 0)
  exact bodyPost_ret (v := .tuple #[.agg #[.int .i64 0, .int .i64 0, .slice none 0 0, .slice none 0 0], .int .i64 5]) (by simp [results, Try.results84, go_sem, k0, k1, k2, k3]) rfl ⟨rfl, hB.trans (hbt.below (by omega) (by omega))⟩

theorem backGo_len (n : Nat) (l : List Bk) (a o : Int) : (backGo n l a o).1.length ≤ l.length := by
  induction n generalizing l a o with
  | zero => exact Nat.le_refl _
  | succ n ih =>
    unfold backGo
    split
    · exact Nat.le_trans (ih _ _ _) (dropB_len _ _ _)
    · exact Nat.le_refl _
theorem backZ_len (z : Zn) (a o : Int) : (backZ z a o).free.length ≤ z.free.length + 1 := by
  show (addB _ _).length ≤ _
  rw [addB_len]
  have := backGo_len (4 - o).toNat z.free a o
  omega

set_option maxHeartbeats 2000000 in
theorem zBack_ok (w : World) (fo : Option Addr) (fn fc : Nat) (to_ : Option Addr) (tn tc : Nat) (z : Zn) (a o : Int) (h : ZnAt w fo fn to_ tn z) (hM : ZMay z) (hA : blkIn z.f z.t a o) (hv : ¬ ovlP z.free a o) :
    Calls Try.prog 84 #[.agg #[.int .i64 z.f, .int .i64 z.t, .slice fo fn fc, .slice to_ tn tc], .int .i64 a, .int .i64 o] w fun e w' => RetZone w.heap.size w' (backZ z a o) e ∧ Below w.heap.size w w' := by
  have I0 := cbI_first w fo fn fc to_ tn tc z h
  have c0 := I0.box.c0
  have c1 := I0.box.c1
  have c2 := I0.box.c2
  have c3 := I0.box.c3
  have hB2 : Hid (blkB z.f z.t a o = true) := (blkB_iff z.f z.t a o).2 hA
  have htr := h.types.reach
  have hbl := may_len hM
  obtain ⟨Y, hY⟩ : ∃ Y, backZ z a o = Y := ⟨_, rfl⟩
  have hlenB : Y.free.length ≤ 257 := by rw [← hY]; have := backZ_len z a o; omega
  rw [hY]
  have HY : Hid _ := hY
  clear h hY
  go_enter Try.func84, Try.ntmps84
  go_wp2_with fail
  go_at_call 63
  refine (zCheck_ok _ fo fn fc to_ tn tc z I0.zn hM).mono ?_
  rintro e w1 ⟨rfl, hb⟩
  have I1 := I0.step hb
  clear I0 hb c0 c1 c2 c3
  have c0 := I1.box.c0
  have c1 := I1.box.c1
  have c2 := I1.box.c2
  have c3 := I1.box.c3
  go_wp2_with fail
  go_at_call 97
  refine (blkMay_any _ z.f z.t fo to_ fn fc tn tc a o hM.new).mono ?_
  rintro e w2 ⟨rfl, hb2⟩
  rw [hB2.out]
  have I2 := I1.step hb2
  clear I1 hb2 c0 c1 c2 c3
  have c0 := I2.box.c0
  have c1 := I2.box.c1
  have c2 := I2.box.c2
  have c3 := I2.box.c3
  go_wp2_with fail
  go_at_call 41
  refine (zCopy_own _ fo fn fc to_ tn tc z I2.zn).mono ?_
  rintro e w3 ⟨g, k, rfl, o1, o2, hgk, hb3⟩
  have I3 := I2.step hb3
  have hf1 := owns_fresh o1 _ rfl
  have hf2 := owns_fresh o2 _ rfl
  have Z4 := zo_new o1 o2 hgk
  have hbx := below_box w3 (.cells #[.int .i64 z.f, .int .i64 z.t, .slice (some ⟨g, 0, none⟩) fn fn, .slice (some ⟨k, 0, none⟩) tn tn] 44)
  have I4 := I3.step hbx
  have hs2 := I2.size
  have hs3 := I3.size
  have HP := put_ok _ _ w3.heap.size g fn fn k tn tn z a o Z4 hM hA hv
  have hgl := Z4.glt
  obtain ⟨W4, hW4⟩ : ∃ W4, w3.alloc (.cells #[.int .i64 z.f, .int .i64 z.t, .slice (some ⟨g, 0, none⟩) fn fn, .slice (some ⟨k, 0, none⟩) tn tn] 44) = W4 := ⟨_, rfl⟩
  rw [hW4] at I4 HP hgl
  have HW4 : Hid _ := hW4
  rw [HY.out] at HP
  dsimp only at hf1 hf2
  clear I2 I3 hb3 c0 c1 c2 c3 o1 o2 hbx Z4 hW4
  go_wp2_with (rw [HW4.out])
  go_at_call 75
  refine HP.mono ?_
  rintro e w5 ⟨rfl, g', n', cap', Z5, hg', hU⟩
  have hs4 := I4.size
  have R1 := hU.res I4.res (by omega) (by omega)
  have hB : Below w.heap.size w w5 := I4.b.trans (hU.below (by omega) (by omega) (by omega))
  obtain ⟨⟨x0, d0⟩, ⟨x1, d1⟩, ⟨x2, d2⟩, ⟨x3, d3⟩, z0, z1, z2, z3⟩ := id R1
  have y0 := Z5.box.c0
  have y1 := Z5.box.c1
  have y2 := Z5.box.c2
  have y3 := Z5.box.c3
  have hs5 := hU.size
  have hgB : w.heap.size + 2 ≤ g' := by rcases hg' with e | e <;> omega
  have B7 := blks_own Z5.own (by have := bowns_len Z5.own; omega)
  have N7 := nums_of_owns Z5.typ htr
  clear I4 HP HW4
  go_wp2
  obtain ⟨k0, k1, k2, k3⟩ := res4 R1 (.int .i64 Y.f) (.int .i64 Y.t) (.slice (some ⟨g', 0, none⟩) n' cap') (.slice (some ⟨k, 0, none⟩) tn tn)
  have hbt := but4 w5 (w.heap.size + 1) (.int .i64 Y.f) (.int .i64 Y.t) (.slice (some ⟨g', 0, none⟩) n' cap') (.slice (some ⟨k, 0, none⟩) tn tn)
  exact bodyPost_ret (v := .tuple #[.agg #[.int .i64 Y.f, .int .i64 Y.t, .slice (some ⟨g', 0, none⟩) n' cap', .slice (some ⟨k, 0, none⟩) tn tn], .int .i64 0]) (by simp [results, Try.results84, go_sem, k0, k1, k2, k3]) rfl ⟨⟨_, _, _, _, _, _, rfl, hbt.zn ⟨B7, N7⟩ (fun a ha => by cases ha; dsimp only; omega) (fun a ha => by cases ha; dsimp only; omega), fun a ha => by cases ha; dsimp only; omega, fun a ha => by cases ha; dsimp only; omega⟩, hB.trans (hbt.below (by omega) (by omega))⟩

end Go.Proofs.Ytbjlbmofdnkmiaa

/-
  OWN TEXT. Contracts of the code: pages.back, backAll; where the zones' data then lie (written by bkf.py out of HcBack, HcDrain).
-/
namespace Go.Proofs.Ytbjlbmofdnkmiaa
open Go Go.RowKit Go.Proofs.Ytbjlbmofdnkmiaa.Kit

/-- No data of a zone lie in block b. -/
structure AwayF (b : Nat) (y : Hx) : Prop where
  f : ∀ z ∈ y.zs, 0 < z.z.free.length → ∀ a, z.fo = some a → a.block ≠ b
  t : ∀ z ∈ y.zs, 0 < z.z.types.length → ∀ a, z.to_ = some a → a.block ≠ b
theorem AwayF.setZ {b i : Nat} {y : Hx} {z : Zc} (h : AwayF b y) (h1 : ∀ a, z.fo = some a → a.block ≠ b) (h2 : ∀ a, z.to_ = some a → a.block ≠ b) : AwayF b (y.setZ i z) := by
  refine ⟨fun c hc h0 => ?_, fun c hc h0 => ?_⟩ <;> rcases List.mem_or_eq_of_mem_set hc with hc | rfl
  · exact h.f c hc h0
  · exact h1
  · exact h.t c hc h0
  · exact h2

set_option maxRecDepth 10000 in
set_option maxHeartbeats 4000000 in
theorem pBackF_ok (w : World) (B gz hbk : Nat) (y : Hx) (p o : Int) (rh : w.heap[hbk]? = some (.cells #[.slice y.zo y.zn y.zc, .slice y.mo y.mn y.mc, .int .i64 y.cpus, .slice y.lo y.ln y.lc, .slice y.vo y.vn y.vc] 28 (0, 0))) (HY : HZ w B gz y) (hne : hbk ≠ gz) (hc : CanBack y.hp p o) :
    Calls Try.prog 70 #[.pointer (some ⟨hbk, 0, none⟩), .int .i64 p, .int .i64 o] w fun e w' => e = .returned (.int .i64 0) ∧ ∃ z, z.z = backZ (y.zs.getD (zIdx y.hp p) .zero).z p o ∧ HZ w' B gz (y.setZ (zIdx y.hp p) z) ∧ But gz w w' ∧ (∀ b, b < w.heap.size → AwayF b y → AwayF b (y.setZ (zIdx y.hp p) z)) := by
  have HY0 := HY.at_
  have hin : zIdx y.hp p < y.zn := by have := zIdx_lt y.hp p; have e : y.hp.zones.length = y.zs.length := (by show (y.zs.map _).length = _; rw [List.length_map]); have := hc.n; have := HY.at_.zones.len; omega
  have hzn : y.zn = 2 := by have e : y.hp.zones.length = y.zs.length := (by show (y.zs.map _).length = _; rw [List.length_map]); have := hc.n; have := HY.at_.zones.len; omega
  have hgz : gz < w.heap.size := HY.lt (by omega)
  have hM := hc.m
  have hA := hc.i
  have hv := hc.v
  rw [hp_zone] at hM hA hv
  have hrl := row_lt rh
  obtain ⟨i, hi⟩ : ∃ i, zIdx y.hp p = i := ⟨_, rfl⟩
  rw [hi] at hin hM hA hv
  have ez := HY.ez
  obtain ⟨gi, oi, zi, foi, fni, fci, toi, tni, tci, hai, c0i, c1i, c2i, c3i, hati, hXi⟩ := HY.at_.zones.at (i) (by omega)
  replace c0i := St.of c0i; replace c1i := St.of c1i; replace c2i := St.of c2i; replace c3i := St.of c3i
  have hXe : (y.zs.getD i .zero).z = zi := by rw [hXi.out]
  rw [ez] at hai; simp only [Option.some.injEq, Addr.mk.injEq, and_true] at hai; obtain ⟨rfl, rfl⟩ := hai
  have B0 := Below.refl w.heap.size w
  refine sx_enter (args := [_, _, _]) 38 Try.func70 rfl rfl rfl ?_
  intro A f
  refine wp_seq ?_
  refine sx_list ?_
  refine l_do f rfl rfl rfl (y_assign rfl rfl) ?_; clear f A; intro A f
  refine wpList_nil ?_
  refine x_tn ?_
  refine wp_seq ?_
  refine sx_list ?_
  refine l_do f rfl rfl rfl (y_move rfl rfl) ?_; clear f A; intro A f
  refine l_do f rfl rfl rfl (y_nil rfl rfl) ?_; clear f A; intro A f
  refine l_do f rfl rfl rfl (y_loadN (vs := [_, _, _, _, _]) rfl rfl (ag rfl) rfl (rowls (rowq rh) _ _ ⟨rfl, rfl, rfl, rfl, rfl, trivial⟩)) ?_; clear f A; intro A f
  refine l_do f rfl rfl rfl (y_move rfl rfl) ?_; clear f A; intro A f
  refine l_call f rfl rfl rfl (IsCall.mk' (cap := []) rfl rfl rfl) (pl rfl) (by have e := pZoneOf_c _ y p HY.at_ hzn; rw [hi] at e; exact e) ?_; clear f A; rintro _ W2 ⟨rfl, hb1⟩; refine ⟨_, rfl, ?_⟩; intro A f; replace B0 := Below.next B0 hb1; replace HY := HY.below hb1; replace rh := row_next rh hb1
  refine l_do f rfl rfl rfl (y_assign rfl rfl) ?_; clear f A; intro A f
  refine wpList_nil ?_
  refine x_tn ?_
  refine wp_seq ?_
  refine sx_list ?_
  refine l_do f rfl rfl rfl (y_move rfl rfl) ?_; clear f A; intro A f
  refine l_do f rfl rfl rfl (y_nil rfl rfl) ?_; clear f A; intro A f
  refine l_do f rfl rfl rfl (y_field rfl rfl (fo rfl)) ?_; clear f A; intro A f
  refine l_do f rfl rfl rfl (y_load1 rfl rfl (ag rfl) (rowl (rowq rh) rfl)) ?_; clear f A; intro A f
  refine l_do f rfl rfl rfl (y_move rfl rfl) ?_; clear f A; intro A f
  refine l_do f rfl rfl rfl (y_index rfl rfl (by first | rfl | assumption) rfl (es rfl) (by omega)) ?_; clear f A; intro A f
  refine l_do f rfl rfl rfl (y_loadN (vs := [_, _, _, _]) rfl rfl (ag rfl) rfl ⟨(by first | assumption | exact St.q c0i B0 | exact St.q c1i B0 | exact St.q c2i B0 | exact St.q c3i B0), (by first | assumption | exact St.q c0i B0 | exact St.q c1i B0 | exact St.q c2i B0 | exact St.q c3i B0), (by first | assumption | exact St.q c0i B0 | exact St.q c1i B0 | exact St.q c2i B0 | exact St.q c3i B0), (by first | assumption | exact St.q c0i B0 | exact St.q c1i B0 | exact St.q c2i B0 | exact St.q c3i B0), trivial⟩) ?_; clear f A; intro A f
  refine l_do f rfl rfl rfl (y_move rfl rfl) ?_; clear f A; intro A f
  refine l_do f rfl rfl rfl (y_move rfl rfl) ?_; clear f A; intro A f
  have lz_hbk := row_lt rh
  refine l_call f rfl rfl rfl (IsCall.mk' (cap := []) rfl rfl rfl) (pl rfl) (zBack_ok _ _ _ _ _ _ _ zi p o (hati.below B0) (hXe ▸ hM) (hXe ▸ hA) (hXe ▸ hv)) ?_
  clear f A
  rintro _ W4 ⟨⟨fo2, fn2, fc2, to2, tn2, tc2, rfl, hz2, hf2, ht2⟩, hb3⟩
  refine ⟨_, rfl, ?_⟩
  have hg1 := B0.size
  intro A f
  replace B0 := Below.next B0 hb3; replace HY := HY.below hb3; replace rh := row_next rh hb3
  obtain ⟨Y, hY⟩ : ∃ Y, backZ zi p o = Y := ⟨_, rfl⟩
  rw [hY] at f hz2
  refine l_do f rfl rfl rfl (y_move rfl rfl) ?_; clear f A; intro A f
  refine l_do f rfl rfl rfl (y_ext rfl rfl rfl) ?_; clear f A; intro A f
  refine l_do f rfl rfl rfl (y_ext rfl rfl rfl) ?_; clear f A; intro A f
  refine l_as (z := .agg #[.int .i64 0, .int .i64 0, .slice none 0 0, .slice none 0 0]) f rfl rfl rfl rfl (by kernel_rfl) rfl rfl (fun _ => rfl) (fun _ => rfl) rfl (by intro u hu; simp [Value.cells] at hu; rcases hu with rfl | rfl | rfl | rfl <;> rfl) ?_; clear f A; intro b5 W6 eb5 hb7 rb5 A f
  dsimp only [Value.cells] at rb5
  have hpb5 := hb7
  have o_hbk_b5 : hbk < b5 := by have := row_lt rh; omega
  have z_B0_b5 := B0.size; rw [eb5] at z_B0_b5
  replace B0 := Below.next B0 hb7; replace HY := HY.below hb7; replace hz2 := hz2.below hb7; replace rh := row_next rh hb7
  refine l_do f rfl rfl rfl (y_assign rfl rfl) ?_; clear f A; intro A f
  refine wpList_nil ?_
  refine x_tn ?_
  refine wp_seq ?_
  refine wp_seq ?_
  refine sx_list ?_
  refine l_do f rfl rfl rfl (y_move rfl rfl) ?_; clear f A; intro A f
  refine l_if _ f rfl rfl rfl (y_neq rfl rfl rfl) ?_ ?_
  · intro c8; exfalso; omega
  · clear f A; intro c8 A f
    refine wpList_nil ?_
    refine x_tn ?_
    refine x_condF f rfl ?_
    refine wp_skip ?_
    refine x_tn ?_
    refine wp_seq ?_
    have q_hbk := fun wx (h : But gz W6 wx) => But.row h rh (by omega)
    have q_b5 := fun wx (h : But gz W6 wx) => But.row h rb5 (by omega)
    have hSB : Below w.heap.size w W6 := B0
    refine sx_held (fun wx => But gz W6 wx) [7] (by kernel_rfl) (by kernel_rfl) (blind_then (blind_body)) (But.of_below ((Below.refl _ _).drew)) ?_
    generalize hWd : ({ W6 with drawn := W6.drawn + 1 } : World) = W9
    have hS := but_start gz hWd
    have hdr := drawn_b hWd
    clear hWd
    replace B0 := Below.next B0 hdr; replace HY := HY.below hdr; replace hz2 := hz2.below hdr; replace rh := row_next rh hdr; replace rb5 := row_next rb5 hdr
    refine h_do f rfl rfl rfl rfl (y_move rfl rfl) ?_; clear f A; intro A f
    refine h_do f rfl rfl rfl rfl (y_nil rfl rfl) ?_; clear f A; intro A f
    refine h_do f rfl rfl rfl rfl (y_field rfl rfl (fo rfl)) ?_; clear f A; intro A f
    refine h_do f rfl rfl rfl rfl (y_load1 rfl rfl (ag rfl) (rowl q_hbk rfl)) ?_; clear f A; intro A f
    refine h_do f rfl rfl rfl rfl (y_move rfl rfl) ?_; clear f A; intro A f
    refine h_do f rfl rfl rfl rfl (y_loadN (vs := [_, _, _, _]) rfl rfl (ag rfl) rfl (rowls q_b5 _ _ ⟨rfl, rfl, rfl, rfl, trivial⟩)) ?_; clear f A; intro A f
    refine h_do f rfl rfl rfl rfl (y_index rfl rfl (by first | rfl | assumption) rfl (es rfl) (by omega)) ?_; clear f A; intro A f
    have oz := HY.oz
    rw [HY.ez] at oz
    refine h_storeR f rfl rfl rfl rfl rfl rfl (own_set4 oz hin (Zc.q ⟨Y, fo2, fn2, fc2, to2, tn2, tc2⟩) (Zc.one _) (sz rfl)) (fun _ h => hS.trans h.1) ?_
    rintro W10 ⟨hb11, ow⟩
    have HY2 := HY.set (i := i) (z := ⟨Y, fo2, fn2, fc2, to2, tn2, tc2⟩) hz2 (fun a ha e => by have := hf2 a ha; omega) (fun a ha e => by have := ht2 a ha; omega) hb11 (by rw [HY.ez]; exact ow)
    have hSf := hS.trans hb11
    refine h_nil ?_
    refine x_tn ?_
    refine wp_seq ?_
    refine sx_list ?_
    refine l_do f rfl rfl rfl (y_assign rfl rfl) ?_; clear f A; intro A f
    refine wpList_nil ?_
    refine x_tn ?_
    refine wp_ret ?_
    refine x_ret1 f rfl rfl ?_
    -- return 0: ¬c8@29
    exact ⟨rfl, ⟨Y, fo2, fn2, fc2, to2, tn2, tc2⟩, by rw [hi, hXe]; exact hY.symm, by rw [hi]; exact HY2, ((But.of_below hSB).trans hSf), fun (b : Nat) (hb : b < w.heap.size) (ha : AwayF b y) => AwayF.setZ (b := b) (z := ⟨Y, fo2, fn2, fc2, to2, tn2, tc2⟩) ha (fun a h => by have := hf2 a h; omega) (fun a h => by have := ht2 a h; omega)⟩

set_option maxRecDepth 10000 in
set_option maxHeartbeats 4000000 in
theorem pBackAllF_ok (w : World) (B gz hbk : Nat) (y : Hx) (po : Option Addr) (pn pc : Nat) (ps : List Int) (rh : w.heap[hbk]? = some (.cells #[.slice y.zo y.zn y.zc, .slice y.mo y.mn y.mc, .int .i64 y.cpus, .slice y.lo y.ln y.lc, .slice y.vo y.vn y.vc] 28 (0, 0))) (HY : HZ w B gz y) (hne : hbk ≠ gz) (hN : Nums w po pn ps) (hne2 : 0 < ps.length → ∀ a, po = some a → a.block ≠ gz) (hc : CanBacks y.hp ps) :
    Calls Try.prog 72 #[.pointer (some ⟨hbk, 0, none⟩), .slice po pn pc] w fun e w' => e = .returned (.int .i64 0) ∧ ∃ zs, (y.withZ zs).hp = backs y.hp ps ∧ HZ w' B gz (y.withZ zs) ∧ But gz w w' ∧ (∀ b, b < w.heap.size → AwayF b y → AwayF b (y.withZ zs)) := by
  have nr := hN.reach
  have B0 := Below.refl w.heap.size w
  refine sx_enter (args := [_, _]) 21 Try.func72 rfl rfl rfl ?_
  intro A f
  refine wp_seq ?_
  refine sx_list ?_
  refine l_do f rfl rfl rfl (y_assign rfl rfl) ?_; clear f A; intro A f
  refine wpList_nil ?_
  refine x_tn ?_
  refine wp_seq ?_
  refine wp_seq ?_
  refine sx_list ?_
  refine l_do f rfl rfl rfl (y_move rfl rfl) ?_; clear f A; intro A f
  refine l_do f rfl rfl rfl (y_len rfl rfl (sl rfl)) ?_; clear f A; intro A f
  refine l_do f rfl rfl rfl (y_move rfl rfl) ?_; clear f A; intro A f
  refine wpList_nil ?_
  refine x_tn ?_
  refine wp_block ?_
  refine x_loop (fun n A W => ∃ (k : Nat) (zs : List Zc), n = pn - k ∧ k ≤ pn ∧ Fr A 21 [(0, .pointer (some ⟨hbk, 0, none⟩)), (8, .slice po pn pc), (9, .int .i64 (pn : Nat)), (10, .int .i64 (k : Nat))] ∧ HZ W B gz (y.withZ zs) ∧ (y.withZ zs).hp = backs y.hp (ps.take k) ∧ But gz w W ∧ (∀ b, b < w.heap.size → AwayF b y → AwayF b (y.withZ zs))) (n0 := pn) (⟨0, y.zs, rfl, Nat.zero_le _, f.sub ⟨rfl, rfl, rfl, rfl, trivial⟩, HY.below B0, rfl, But.of_below B0, fun _ _ h => h⟩) ?_
  clear f A
  clear B0
  rintro n A W1 ⟨k, zs, hn, hk, f, HYk, hhp, hbt, haw⟩
  have BW := Below.refl W1.heap.size W1
  have hNk := nums_but hN hbt hne2
  have rhk := But.row hbt rh hne
  refine wp_seq ?_
  refine sx_list ?_
  refine l_if _ f rfl rfl rfl (y_lss rfl rfl rfl) ?_ ?_
  · clear f A; intro c2 A f
    refine wpList_nil ?_
    refine x_tn ?_
    refine wp_seq ?_
    refine x_condT f rfl ?_
    refine wp_skip ?_
    refine x_tn ?_
    refine wp_seq ?_
    refine wp_block ?_
    refine wp_seq ?_
    refine sx_list ?_
    obtain ⟨gg, og, vg, hag, c0g, hXg⟩ := hNk.at_.at (k) (by have := hNk.len; omega)
    replace c0g := St.of c0g
    rw [show og + k = og + k * 1 by omega] at c0g
    have hcb : CanBack (y.withZ zs).hp vg 0 := by rw [hhp]; exact canBacks_at hc (by have := hN.len; omega) hXg.out
    refine l_do f rfl rfl rfl (y_index rfl rfl (by first | rfl | assumption) rfl (es rfl) (by omega)) ?_; clear f A; intro A f
    refine l_do f rfl rfl rfl (y_load1 rfl rfl (ag rfl) (by first | assumption | exact St.q c0g BW)) ?_; clear f A; intro A f
    refine l_do f rfl rfl rfl (y_assign rfl rfl) ?_; clear f A; intro A f
    refine wpList_nil ?_
    refine x_tn ?_
    refine wp_seq ?_
    refine sx_list ?_
    refine l_do f rfl rfl rfl (y_move rfl rfl) ?_; clear f A; intro A f
    refine l_do f rfl rfl rfl (y_move rfl rfl) ?_; clear f A; intro A f
    refine l_call f rfl rfl rfl (IsCall.mk' (cap := []) rfl rfl rfl) (pl rfl) (pBackF_ok _ B gz hbk (y.withZ zs) vg 0 (row_next rhk BW) (HYk.below BW) hne hcb) ?_
    clear f A
    rintro _ W3 ⟨rfl, zk, hzk, HY2, hb2, haw2⟩
    refine ⟨_, rfl, ?_⟩
    intro A f
    have hbt2 := hbt.trans hb2
    refine l_do f rfl rfl rfl (y_assign rfl rfl) ?_; clear f A; intro A f
    refine wpList_nil ?_
    refine x_tn ?_
    refine wp_seq ?_
    refine sx_list ?_
    refine l_do f rfl rfl rfl (y_move rfl rfl) ?_; clear f A; intro A f
    refine l_if _ f rfl rfl rfl (y_neq rfl rfl rfl) ?_ ?_
    · intro c4; exfalso; omega
    · clear f A; intro c4 A f
      refine wpList_nil ?_
      refine x_tn ?_
      refine x_condF f rfl ?_
      refine wp_skip ?_
      refine x_bn ?_
      refine x_tn ?_
      refine sx_list ?_
      refine l_do f rfl rfl rfl (y_add rfl rfl rfl rfl (by omega)) ?_; clear f A; intro A f
      refine l_do f rfl rfl rfl (y_move rfl rfl) ?_; clear f A; intro A f
      refine wpList_nil ?_
      refine x_tn ?_
      exact ⟨pn - (k + 1), by omega, k + 1, _, rfl, by omega, f.sub ⟨rfl, rfl, rfl, rfl, trivial⟩, HY2, (setZ_hp hzk).trans (by rw [hhp, backs_take (by have := hN.len; omega) hXg.out]), hbt2, fun b hb h => haw2 b (by have := hbt.size; have := BW.size; omega) (haw b hb h)⟩
  · clear f A; intro c2 A f
    refine wpList_nil ?_
    refine x_tn ?_
    refine wp_seq ?_
    refine x_condF f rfl ?_
    refine wp_exit ?_
    refine x_te ?_
    refine x_te ?_
    refine x_bh ?_
    refine x_tn ?_
    refine wp_seq ?_
    refine sx_list ?_
    refine l_do f rfl rfl rfl (y_assign rfl rfl) ?_; clear f A; intro A f
    refine wpList_nil ?_
    refine x_tn ?_
    refine wp_ret ?_
    refine x_ret1 f rfl rfl ?_
    -- return 0: ¬c2@11
    exact ⟨rfl, zs, by rw [hhp, List.take_of_length_le (by have := hN.len; omega)], HYk, hbt, haw⟩



end Go.Proofs.Ytbjlbmofdnkmiaa

/-
  OWN TEXT. Pages come back one by one: plain mathematics.
-/
namespace Go.Proofs.Ytbjlbmofdnkmiaa.Kit

/-- n pages, from p on, come back one by one; none: one of them is free. -/
def giveK : Nat → Zn → Int → Option Zn
  | 0, z, _ => some z
  | n + 1, z, p => if z.free.any (ovl1 (p + pw 0) p) = true then none else giveK n (backZ z p 0) (p + 1)

/-- What may be given. -/
def giveOk (z : Zn) (a s : Int) : Prop := z.f ≤ a ∧ a ≤ z.t ∧ 0 ≤ s ∧ s ≤ z.t - a

theorem page_in {z : Zn} {p : Int} (h1 : z.f ≤ p) (h2 : p < z.t) : blkIn z.f z.t p 0 := ⟨⟨by omega, by omega⟩, h1, by omega, by rw [pw_0]; omega⟩
theorem give_none {n : Nat} {z : Zn} {p : Int} (h : ovlP z.free p 0) : giveK (n + 1) z p = none := by
  unfold giveK
  rw [if_pos ((ovl_any z.free p 0).2 h)]
theorem give_some {n : Nat} {z : Zn} {p : Int} (h : ¬ ovlP z.free p 0) : giveK (n + 1) z p = giveK n (backZ z p 0) (p + 1) := by
  show (if _ then _ else _) = _
  rw [if_neg (fun g => h ((ovl_any z.free p 0).1 g))]

end Go.Proofs.Ytbjlbmofdnkmiaa.Kit

/-
  OWN TEXT. Which free block is taken: plain mathematics.
-/
namespace Go.Proofs.Ytbjlbmofdnkmiaa.Kit

/-- A block of an order and a type. -/
def isT (o t : Int) (b : Bk) : Bool := decide (b.o = o ∧ b.t = t)
/-- The first place at which it holds, or -1. -/
def fidx (g : Bk → Bool) : List Bk → Int
  | [] => -1
  | b :: l => if g b = true then 0 else if fidx g l < 0 then -1 else fidx g l + 1

theorem fidx_none {g : Bk → Bool} {l : List Bk} (h : ∀ j, j < l.length → g (l.getD j .zero) = false) : fidx g l = -1 := by
  induction l with
  | nil => rfl
  | cons b l ih =>
    have h0 : g b = false := by simpa using h 0 (by simp)
    have := ih (fun j hj => by simpa using h (j + 1) (by simpa using hj))
    unfold fidx
    rw [h0, this]
    rfl
theorem fidx_some {g : Bk → Bool} {l : List Bk} {k : Nat} (hk : k < l.length) (h1 : g (l.getD k .zero) = true) (h2 : ∀ j, j < k → g (l.getD j .zero) = false) : fidx g l = k := by
  induction l generalizing k with
  | nil => simp at hk
  | cons b l ih =>
    cases k with
    | zero =>
      have h0 : g b = true := by simpa using h1
      unfold fidx
      rw [if_pos h0]; rfl
    | succ k =>
      have h0 : g b = false := by simpa using h2 0 (by omega)
      have := ih (k := k) (by simpa using hk) (by simpa using h1) (fun j hj => by simpa using h2 (j + 1) (by omega))
      unfold fidx
      rw [h0, this, if_neg (by simp), if_neg (by omega)]
      omega

/-- Of the type itself, from order o on, n orders. -/
def upI (l : List Bk) (t : Int) : Nat → Int → Int
  | 0, _ => -1
  | n + 1, o => if 0 ≤ fidx (isT o t) l then fidx (isT o t) l else upI l t n (o + 1)
/-- Of two others, from order o + n - 1 down to o. -/
def dnI (l : List Bk) (u v o : Int) : Nat → Int
  | 0 => -1
  | n + 1 => if 0 ≤ fidx (isT (o + n) u) l then fidx (isT (o + n) u) l else if 0 ≤ fidx (isT (o + n) v) l then fidx (isT (o + n) v) l else dnI l u v o n
/-- The others, in their order. -/
def other1 (t : Int) : Int := if t = 2 then 0 else 2
def other2 (t : Int) : Int := if t = 1 then 0 else 1
/-- The place of the block that is taken, or -1. -/
def chooseI (l : List Bk) (o t : Int) : Int := if 0 ≤ upI l t (5 - o).toNat o then upI l t (5 - o).toNat o else dnI l (other1 t) (other2 t) o (5 - o).toNat

end Go.Proofs.Ytbjlbmofdnkmiaa.Kit

/-
  OWN TEXT. What stays free of a block that is halved: plain mathematics.
-/
namespace Go.Proofs.Ytbjlbmofdnkmiaa.Kit

/-- The upper halves, by places: m of them, from order o on. -/
def halvesL (a t o : Int) : Nat → List Bk
  | 0 => []
  | m + 1 => halvesL a t o m ++ [⟨a + pw (o + m), o + m, t⟩]
theorem halvesL_len (a t o : Int) (m : Nat) : (halvesL a t o m).length = m := by
  induction m with
  | zero => rfl
  | succ m ih => simp [halvesL, ih]

end Go.Proofs.Ytbjlbmofdnkmiaa.Kit

/-
  OWN TEXT. A block that is taken: the first that fits, and the halves that go back one by one: plain mathematics.
-/
namespace Go.Proofs.Ytbjlbmofdnkmiaa.Kit

theorem fidx_ge (g : Bk → Bool) (l : List Bk) : -1 ≤ fidx g l := by
  induction l with
  | nil => exact Int.le_refl (-1)
  | cons b l ih =>
    unfold fidx
    split
    · decide
    · split
      · decide
      · omega

theorem pw_succ (o : Int) (h : 0 ≤ o) : pw (o + 1) = 2 * pw o := by
  unfold pw
  have e : (o + 1).toNat = o.toNat + 1 := by omega
  rw [e, Nat.pow_succ]
  omega

/-- The first that fits stands at the first place. -/
theorem find_fidx (g : Bk → Bool) (l : List Bk) : l.find? g = if 0 ≤ fidx g l then some (l.getD (fidx g l).toNat .zero) else none := by
  induction l with
  | nil => rfl
  | cons b l ih =>
    by_cases hb : g b = true
    · rw [List.find?_cons_of_pos hb]
      unfold fidx
      rw [if_pos hb]
      rfl
    · rw [List.find?_cons_of_neg hb, ih]
      have hge := fidx_ge g l
      conv => rhs; unfold fidx
      rw [if_neg hb]
      by_cases hn : fidx g l < 0
      · rw [if_pos hn, if_neg (by omega), if_neg (by decide)]
      · rw [if_neg hn, if_pos (by omega), if_pos (by omega)]
        have e : (fidx g l + 1).toNat = (fidx g l).toNat + 1 := by omega
        rw [e]
        rfl

/-- A block goes between those that begin not later and those that begin later. -/
theorem addB_mid (p q : List Bk) (h : Bk) (hp : ∀ x ∈ p, x.a ≤ h.a) (hq : ∀ x ∈ q, h.a < x.a) : addB (p ++ q) h = p ++ h :: q := by
  induction p with
  | nil =>
    cases q with
    | nil => rfl
    | cons y q =>
      have := hq y (by simp)
      show (if y.a > h.a then h :: y :: q else y :: addB q h) = _
      rw [if_pos (by omega)]
      rfl
  | cons x p ih =>
    have := hp x (by simp)
    show (if x.a > h.a then h :: x :: (p ++ q) else x :: addB (p ++ q) h) = _
    rw [if_neg (by omega), ih (fun y hy => hp y (by simp [hy]))]
    rfl

/-- The upper halves put back one by one, the greatest first. -/
def putH (a t o : Int) : Nat → List Bk → List Bk
  | 0, l => l
  | m + 1, l => putH a t o m (addB l ⟨a + pw (o + m), o + m, t⟩)

theorem putH_mid (a t o : Int) (ho : 0 ≤ o) (p : List Bk) (hp : ∀ x ∈ p, x.a ≤ a) (m : Nat) (q : List Bk) (hq : ∀ x ∈ q, a + pw (o + m) ≤ x.a) :
    putH a t o m (p ++ q) = p ++ halvesL a t o m ++ q := by
  induction m generalizing q with
  | zero => simp [putH, halvesL]
  | succ m ih =>
    have hs : pw (o + (m + 1 : Nat)) = 2 * pw (o + m) := by
      have : o + ((m + 1 : Nat) : Int) = (o + m) + 1 := by omega
      rw [this]
      exact pw_succ (o + m) (by omega)
    have hpos := pw_pos (o + m)
    unfold putH halvesL
    rw [addB_mid p q _ (fun x hx => by have := hp x hx; show x.a ≤ a + pw (o + m); omega) (fun x hx => by have := hq x hx; show a + pw (o + m) < x.a; omega)]
    rw [ih (⟨a + pw (o + m), o + m, t⟩ :: q)]
    · simp
    · intro x hx
      rcases List.mem_cons.1 hx with rfl | hx
      · exact Int.le_refl _
      · have := hq x hx
        omega

theorem dropB_mid (p q : List Bk) (b : Bk) (hp : ∀ x ∈ p, x.a ≠ b.a) (hq : ∀ x ∈ q, x.a ≠ b.a) : dropB (p ++ b :: q) b.a b.o = p ++ q := by
  have k : ∀ l : List Bk, (∀ x ∈ l, x.a ≠ b.a) → l.filter (fun x => !isB b.a b.o x) = l := fun l hl => List.filter_eq_self.2 fun x hx => by
    have := hl x hx
    simp [isB, this]
  unfold dropB
  rw [List.filter_append, k p hp, List.filter_cons, k q hq]
  simp [isB]

/-- Taking a block out and putting its upper halves back is putting them in its place. -/
theorem take_place (p q : List Bk) (b : Bk) (t o : Int) (ho : 0 ≤ o) (hob : o ≤ b.o) (hr : (p ++ b :: q).Pairwise fun x y => x.a + pw x.o ≤ y.a) :
    putH b.a t o (b.o - o).toNat (dropB (p ++ b :: q) b.a b.o) = p ++ halvesL b.a t o (b.o - o).toNat ++ q := by
  obtain ⟨_, h2, h3⟩ := List.pairwise_append.1 hr
  obtain ⟨h4, _⟩ := List.pairwise_cons.1 h2
  have hpb : ∀ x ∈ p, x.a + pw x.o ≤ b.a := fun x hx => h3 x hx b (by simp)
  have hpos := pw_pos b.o
  rw [dropB_mid p q b (fun x hx => by have := hpb x hx; have := pw_pos x.o; omega) (fun x hx => by have := h4 x hx; omega)]
  have e : o + ((b.o - o).toNat : Int) = b.o := by omega
  exact putH_mid b.a t o ho p (fun x hx => by have := hpb x hx; have := pw_pos x.o; omega) _ q (fun x hx => by rw [e]; exact h4 x hx)

end Go.Proofs.Ytbjlbmofdnkmiaa.Kit

/-
  OWN TEXT. What is left free when a block is taken may be: plain mathematics.
-/
namespace Go.Proofs.Ytbjlbmofdnkmiaa.Kit

theorem halves_mem {a t o : Int} {m : Nat} {x : Bk} (h : x ∈ halvesL a t o m) : ∃ k : Nat, k < m ∧ x = ⟨a + pw (o + k), o + k, t⟩ := by
  induction m with
  | zero => simp [halvesL] at h
  | succ m ih =>
    unfold halvesL at h
    rcases List.mem_append.1 h with h | h
    · obtain ⟨k, hk, e⟩ := ih h
      exact ⟨k, by omega, e⟩
    · exact ⟨m, by omega, by simpa using h⟩

theorem pw_mono {i j : Int} (h : i ≤ j) : pw i ≤ pw j := by
  unfold pw
  exact Int.ofNat_le.2 (Nat.pow_le_pow_right (by decide) (by omega))

theorem halves_ahead (a t o : Int) (ho : 0 ≤ o) (m : Nat) : (halvesL a t o m).Pairwise Ahead := by
  induction m with
  | zero => exact List.Pairwise.nil
  | succ m ih =>
    unfold halvesL
    refine List.pairwise_append.2 ⟨ih, List.pairwise_singleton _ _, ?_⟩
    intro x hx y hy
    obtain ⟨k, hk, rfl⟩ := halves_mem hx
    have hy' : y = ⟨a + pw (o + m), o + m, t⟩ := by simpa using hy
    subst hy'
    refine ⟨?_, fun hb => ?_⟩
    · have h1 := pw_succ (o + k) (by omega)
      have h2 := pw_mono (i := o + k + 1) (j := o + m) (by omega)
      show a + pw (o + k) + pw (o + k) ≤ a + pw (o + m)
      omega
    · have h3 : o + (k : Int) = o + m := hb.2.1
      omega

theorem upper_odd {a k bo : Int} (hb : ordOk bo) (h0 : 0 ≤ k) (h1 : k < bo) (ha : a % pw bo = 0) : (a + pw k) % pw (k + 1) ≠ 0 := by
  rw [pw_succ k h0]
  rcases ord_cases hb with ⟨e, p⟩ | ⟨e, p⟩ | ⟨e, p⟩ | ⟨e, p⟩ | ⟨e, p⟩ <;> rw [p] at ha <;>
    rcases ord_cases (o := k) ⟨h0, by obtain ⟨_, _⟩ := hb; omega⟩ with ⟨e', p'⟩ | ⟨e', p'⟩ | ⟨e', p'⟩ | ⟨e', p'⟩ | ⟨e', p'⟩ <;> rw [p'] <;> omega

theorem take_ahead {f z : Int} (p q : List Bk) (b : Bk) (t o : Int) (ho : 0 ≤ o) (hi : AllIn f z (p ++ b :: q)) (hr : (p ++ b :: q).Pairwise Ahead) :
    (p ++ halvesL b.a t o (b.o - o).toNat ++ q).Pairwise Ahead := by
  obtain ⟨h1, h2, h3⟩ := List.pairwise_append.1 hr
  obtain ⟨h4, h5⟩ := List.pairwise_cons.1 h2
  obtain ⟨⟨hbo, hba, hbz, hal⟩, _⟩ := hi b (by simp)
  refine List.pairwise_append.2 ⟨List.pairwise_append.2 ⟨h1, halves_ahead _ _ _ ho _, ?_⟩, h5, ?_⟩
  · intro x hx y hy
    obtain ⟨k, hk, rfl⟩ := halves_mem hy
    have hxb := (h3 x hx b (by simp)).1
    have hp := pw_pos (o + k)
    have hpx := pw_pos x.o
    refine ⟨?_, fun hb => ?_⟩
    · show x.a + pw x.o ≤ b.a + pw (o + k)
      omega
    · have h6 : x.a + pw (o + k) = b.a + pw (o + k) := hb.2.2.1
      omega
  · intro x hx y hy
    rcases List.mem_append.1 hx with hx | hx
    · exact h3 x hx y (by simp [hy])
    · obtain ⟨k, hk, rfl⟩ := halves_mem hx
      have hby := (h4 y hy).1
      have h6 := pw_succ (o + k) (by omega)
      have h7 := pw_mono (i := o + k + 1) (j := b.o) (by omega)
      refine ⟨?_, fun hb => ?_⟩
      · show b.a + pw (o + k) + pw (o + k) ≤ y.a
        omega
      · have h8 : o + (k : Int) = y.o := hb.2.1
        have h9 : (b.a + pw (o + k)) % pw (y.o + 1) = 0 := hb.2.2.2
        rw [← h8] at h9
        exact upper_odd hbo (by omega) (by omega) hal h9

theorem take_in {f z : Int} (p q : List Bk) (b : Bk) (t o : Int) (ho : 0 ≤ o) (ht : typeOk t) (hz : z % 16 = 0) (hi : AllIn f z (p ++ b :: q)) :
    AllIn f z (p ++ halvesL b.a t o (b.o - o).toNat ++ q) := by
  intro x hx
  obtain ⟨⟨hbo, hba, hbz, hal⟩, _⟩ := hi b (by simp)
  rcases List.mem_append.1 hx with hx | hx
  · rcases List.mem_append.1 hx with hx | hx
    · exact hi x (by simp [hx])
    · obtain ⟨k, hk, rfl⟩ := halves_mem hx
      have hK : o + (k : Int) < b.o := by omega
      have hK0 : 0 ≤ o + (k : Int) := by omega
      obtain ⟨K, e⟩ : ∃ K, o + (k : Int) = K := ⟨_, rfl⟩
      rw [e] at hK hK0 ⊢
      have hb4 := hbo.2
      have hK4 : K ≤ 4 := by omega
      refine ⟨⟨⟨hK0, hK4⟩, ?_, ?_, ?_⟩, ht⟩
      · show f ≤ b.a + pw K
        have := pw_pos K
        omega
      · show b.a + pw K ≤ z - 1
        rcases ord_cases hbo with ⟨e1, e2⟩ | ⟨e1, e2⟩ | ⟨e1, e2⟩ | ⟨e1, e2⟩ | ⟨e1, e2⟩ <;> rw [e2] at hal <;>
          rcases ord_cases (o := K) ⟨hK0, hK4⟩ with ⟨e3, e4⟩ | ⟨e3, e4⟩ | ⟨e3, e4⟩ | ⟨e3, e4⟩ | ⟨e3, e4⟩ <;> rw [e4] <;> omega
      · show (b.a + pw K) % pw K = 0
        rcases ord_cases hbo with ⟨e1, e2⟩ | ⟨e1, e2⟩ | ⟨e1, e2⟩ | ⟨e1, e2⟩ | ⟨e1, e2⟩ <;> rw [e2] at hal <;>
          rcases ord_cases (o := K) ⟨hK0, hK4⟩ with ⟨e3, e4⟩ | ⟨e3, e4⟩ | ⟨e3, e4⟩ | ⟨e3, e4⟩ | ⟨e3, e4⟩ <;> rw [e4] <;> omega
  · exact hi x (by simp [hx])

end Go.Proofs.Ytbjlbmofdnkmiaa.Kit

/-
  OWN TEXT. Groups that are stolen, with all that is free in them: plain mathematics.
-/
namespace Go.Proofs.Ytbjlbmofdnkmiaa.Kit

/-- c types, from F on, are t. -/
def setR (ty : List Int) (F : Nat) (t : Int) : Nat → List Int
  | 0 => ty
  | c + 1 => (setR ty F t c).set (F + c) t
theorem setR_len (ty : List Int) (F : Nat) (t : Int) (c : Nat) : (setR ty F t c).length = ty.length := by
  induction c with
  | zero => rfl
  | succ c ih => simp [setR, ih]
/-- A block of the groups F to L is of type t. -/
def stealB (f F L t : Int) (b : Bk) : Bk := if F ≤ (b.a - f) / 8 ∧ (b.a - f) / 8 ≤ L then ⟨b.a, b.o, t⟩ else b
theorem stealB_a (f F L t : Int) (b : Bk) : (stealB f F L t b).a = b.a := by unfold stealB; split <;> rfl
theorem stealB_o (f F L t : Int) (b : Bk) : (stealB f F L t b).o = b.o := by unfold stealB; split <;> rfl
/-- The first i of them. -/
def stealK (f F L t : Int) (l : List Bk) (i : Nat) : List Bk := (l.take i).map (stealB f F L t) ++ l.drop i
theorem stealK_0 (f F L t : Int) (l : List Bk) : stealK f F L t l 0 = l := by simp [stealK]
theorem stealK_all (f F L t : Int) (l : List Bk) : stealK f F L t l l.length = l.map (stealB f F L t) := by simp [stealK]
theorem stealK_len (f F L t : Int) (l : List Bk) (i : Nat) : (stealK f F L t l i).length = l.length := by simp [stealK]; omega
theorem stealK_at (f F L t : Int) {l : List Bk} {i : Nat} (h : i < l.length) : (stealK f F L t l i).getD i .zero = l.getD i .zero := by
  unfold stealK
  rw [List.getD_eq_getElem?_getD, List.getD_eq_getElem?_getD, List.getElem?_append_right (by simp; omega)]
  simp [List.getElem?_drop, Nat.min_eq_left (Nat.le_of_lt h)]
theorem stealK_succ (f F L t : Int) {l : List Bk} {i : Nat} (h : i < l.length) {b : Bk} (hb : l.getD i .zero = b) : stealK f F L t l (i + 1) = (stealK f F L t l i).set i (stealB f F L t b) := by
  have hb' : l[i] = b := by rw [List.getD_eq_getElem?_getD, List.getElem?_eq_getElem h] at hb; exact hb
  unfold stealK
  rw [List.take_succ_eq_append_getElem h, List.map_append, List.set_append_right _ _ (by simp; omega)]
  have e : i - ((l.take i).map (stealB f F L t)).length = 0 := by simp; omega
  rw [e, List.drop_eq_getElem_cons h, List.set_cons_zero, hb']
  simp

end Go.Proofs.Ytbjlbmofdnkmiaa.Kit

/-
  OWN TEXT. What is stolen may be: plain mathematics.
-/
namespace Go.Proofs.Ytbjlbmofdnkmiaa.Kit

theorem steal_ahead (f F L t : Int) {l : List Bk} (h : l.Pairwise Ahead) : (l.map (stealB f F L t)).Pairwise Ahead := by
  refine List.pairwise_map.2 (h.imp ?_)
  intro x y hxy
  unfold Ahead besideP at *
  rw [stealB_a, stealB_o, stealB_a, stealB_o]
  exact hxy

theorem steal_in {f z F L t : Int} {l : List Bk} (ht : typeOk t) (h : AllIn f z l) : AllIn f z (l.map (stealB f F L t)) := by
  intro b hb
  obtain ⟨x, hx, rfl⟩ := List.mem_map.1 hb
  obtain ⟨h1, h2⟩ := h x hx
  rw [stealB_a, stealB_o]
  refine ⟨h1, ?_⟩
  unfold stealB
  split
  · exact ht
  · exact h2

theorem setR_ok {ty : List Int} {F : Nat} {t : Int} (ht : typeOk t) (h : ∀ i, i < ty.length → typeOk (ty.getD i 0)) (c : Nat) : ∀ i, i < (setR ty F t c).length → typeOk ((setR ty F t c).getD i 0) := by
  induction c with
  | zero => exact h
  | succ c ih =>
    intro i hi
    unfold setR at hi ⊢
    rw [List.length_set] at hi
    rw [List.getD_eq_getElem?_getD, List.getElem?_set]
    split
    · split
      · exact ht
      · exact absurd (by omega : F + c < (setR ty F t c).length) ‹_›
    · have := ih i hi
      rwa [List.getD_eq_getElem?_getD] at this

/-- A zone whose groups are stolen may be. -/
theorem steal_may {z : Zn} (h : ZMay z) (F : Nat) (L t : Int) (c : Nat) (ht : typeOk t) : ZMay ⟨z.f, z.t, z.free.map (stealB z.f F L t), setR z.types F t c⟩ := by
  obtain ⟨h1, h2⟩ := free_iff.1 h.free
  exact ⟨h.new, by rw [setR_len]; exact h.len, setR_ok ht h.ty c, free_iff.2 ⟨steal_in ht h1, steal_ahead _ _ _ _ h2⟩⟩

/-- A zone of which a block is taken may be. -/
theorem take_may {z : Zn} (h : ZMay z) (p q : List Bk) (b : Bk) (t o : Int) (ho : 0 ≤ o) (ht : typeOk t) (e : z.free = p ++ b :: q) : ZMay ⟨z.f, z.t, p ++ halvesL b.a t o (b.o - o).toNat ++ q, z.types⟩ := by
  have hf := h.free
  rw [e] at hf
  obtain ⟨h1, h2⟩ := free_iff.1 hf
  exact ⟨h.new, h.len, h.ty, free_iff.2 ⟨take_in p q b t o ho ht h.new.2.2.2.2 h1, take_ahead p q b t o ho h1 h2⟩⟩

end Go.Proofs.Ytbjlbmofdnkmiaa.Kit

/-
  OWN TEXT. What a take leaves of a zone, and that it may be: plain mathematics.
-/
namespace Go.Proofs.Ytbjlbmofdnkmiaa.Kit

/-- The groups of a block. -/
def grpF (z : Zn) (b : Bk) : Int := (b.a - z.f) / 8
def grpL (z : Zn) (b : Bk) : Int := (b.a + pw b.o - 1 - z.f) / 8

/-- Is the block stolen? -/
def steals (b : Bk) (t : Int) : Prop := b.t ≠ t ∧ 2 ≤ b.o
instance (b : Bk) (t : Int) : Decidable (steals b t) := by unfold steals; infer_instance

/-- The zone of which the block at place i has been stolen. -/
def stolenZ (z : Zn) (b : Bk) (t : Int) : Zn := ⟨z.f, z.t, z.free.map (stealB z.f (grpF z b) (grpL z b) t), setR z.types (grpF z b).toNat t ((grpL z b).toNat + 1 - (grpF z b).toNat)⟩

/-- The zone behind a take of an order, for a type, of the block at place i. -/
def takeZ (z : Zn) (o t : Int) (i : Nat) : Zn :=
  let b := z.free.getD i .zero
  if steals b t then
    let s := stolenZ z b t
    ⟨z.f, z.t, s.free.take i ++ (halvesL b.a t o (b.o - o).toNat ++ s.free.drop (i + 1)), s.types⟩
  else ⟨z.f, z.t, z.free.take i ++ (halvesL b.a b.t o (b.o - o).toNat ++ z.free.drop (i + 1)), z.types⟩

theorem fidx_in {g : Bk → Bool} {l : List Bk} (h : 0 ≤ fidx g l) : ∃ i : Nat, fidx g l = i ∧ i < l.length ∧ g (l.getD i .zero) = true := by
  induction l with
  | nil => simp [fidx] at h
  | cons b l ih =>
    by_cases hb : g b = true
    · exact ⟨0, by simp [fidx, hb], by simp, by simpa using hb⟩
    · by_cases hn : fidx g l < 0
      · simp [fidx, hb, hn] at h
      · obtain ⟨i, e, hi, hg⟩ := ih (by omega)
        refine ⟨i + 1, ?_, by simpa using hi, by simpa using hg⟩
        show (if g b = true then (0 : Int) else if fidx g l < 0 then -1 else fidx g l + 1) = _
        rw [if_neg hb, if_neg hn, e]
        rfl

theorem upI_in {l : List Bk} {t : Int} {n : Nat} {o : Int} (h : 0 ≤ upI l t n o) : ∃ i : Nat, upI l t n o = i ∧ i < l.length ∧ o ≤ (l.getD i .zero).o := by
  induction n generalizing o with
  | zero => simp [upI] at h
  | succ n ih =>
    unfold upI at h ⊢
    split at h
    · rename_i hf
      rw [if_pos hf]
      obtain ⟨i, e, hi, hg⟩ := fidx_in hf
      have := (of_decide_eq_true hg).1
      exact ⟨i, e, hi, by omega⟩
    · rename_i hf
      rw [if_neg hf]
      obtain ⟨i, e, hi, hg⟩ := ih h
      exact ⟨i, e, hi, by omega⟩

theorem dnI_in {l : List Bk} {u v o : Int} {n : Nat} (h : 0 ≤ dnI l u v o n) : ∃ i : Nat, dnI l u v o n = i ∧ i < l.length ∧ o ≤ (l.getD i .zero).o := by
  induction n with
  | zero => simp [dnI] at h
  | succ n ih =>
    unfold dnI at h ⊢
    split at h
    · rename_i hf
      rw [if_pos hf]
      obtain ⟨i, e, hi, hg⟩ := fidx_in hf
      have := (of_decide_eq_true hg).1
      exact ⟨i, e, hi, by omega⟩
    · rename_i hf
      rw [if_neg hf]
      split at h
      · rename_i hk
        rw [if_pos hk]
        obtain ⟨i, e, hi, hg⟩ := fidx_in hk
        have := (of_decide_eq_true hg).1
        exact ⟨i, e, hi, by omega⟩
      · rename_i hk
        rw [if_neg hk]
        exact ih h

theorem choose_in {l : List Bk} {o t : Int} (h : 0 ≤ chooseI l o t) : ∃ i : Nat, chooseI l o t = i ∧ i < l.length ∧ o ≤ (l.getD i .zero).o := by
  unfold chooseI at h ⊢
  split at h
  · rename_i hu
    rw [if_pos hu]
    exact upI_in hu
  · rename_i hu
    rw [if_neg hu]
    exact dnI_in h

theorem map_getD (f : Bk → Bk) {l : List Bk} {i : Nat} (h : i < l.length) : (l.map f).getD i .zero = f (l.getD i .zero) := by
  rw [List.getD_eq_getElem?_getD, List.getD_eq_getElem?_getD, List.getElem?_map, List.getElem?_eq_getElem h]
  rfl

theorem cut_at (l : List Bk) {i : Nat} (h : i < l.length) : l = l.take i ++ l.getD i .zero :: l.drop (i + 1) := by
  rw [List.getD_eq_getElem?_getD, List.getElem?_eq_getElem h]
  simp

/-- The stolen block has the type. -/
theorem stolen_self {z : Zn} {b : Bk} (t : Int) : stealB z.f (grpF z b) (grpL z b) t b = ⟨b.a, b.o, t⟩ := by
  have hp := pw_pos b.o
  unfold stealB grpF grpL
  rw [if_pos ⟨Int.le_refl _, by omega⟩]

theorem takeZ_may {z : Zn} (h : ZMay z) {o t : Int} (ho : 0 ≤ o) (ht : typeOk t) {i : Nat} (hi : i < z.free.length) (hb : typeOk (z.free.getD i .zero).t) (hf : z.f ≤ (z.free.getD i .zero).a) : ZMay (takeZ z o t i) := by
  unfold takeZ
  dsimp only
  split
  · have e : ((grpF z (z.free.getD i .zero)).toNat : Int) = grpF z (z.free.getD i .zero) := Int.toNat_of_nonneg (by unfold grpF; omega)
    have hs := steal_may h (grpF z (z.free.getD i .zero)).toNat (grpL z (z.free.getD i .zero)) t ((grpL z (z.free.getD i .zero)).toNat + 1 - (grpF z (z.free.getD i .zero)).toNat) ht
    rw [e] at hs
    have hc := cut_at (z.free.map (stealB z.f (grpF z (z.free.getD i .zero)) (grpL z (z.free.getD i .zero)) t)) (i := i) (by simpa using hi)
    rw [map_getD _ hi, stolen_self] at hc
    have := take_may hs _ _ _ t o ho ht hc
    simpa [stolenZ] using this
  · have := take_may h _ _ _ (z.free.getD i .zero).t o ho hb (cut_at z.free hi)
    simpa using this

end Go.Proofs.Ytbjlbmofdnkmiaa.Kit

/-
  OWN TEXT. How many blocks have a page: plain mathematics.
-/
namespace Go.Proofs.Ytbjlbmofdnkmiaa.Kit

/-- Is a page in a block? -/
def hit (a o p : Int) : Nat := if a ≤ p ∧ p < a + pw o then 1 else 0
/-- How many blocks have a page. -/
def cnt : List Bk → Int → Nat
  | [], _ => 0
  | b :: l, p => hit b.a b.o p + cnt l p

theorem cnt_append (l m : List Bk) (p : Int) : cnt (l ++ m) p = cnt l p + cnt m p := by
  induction l with
  | nil => simp [cnt]
  | cons b l ih => simp only [List.cons_append, cnt, ih]; omega
theorem cnt_one (b : Bk) (p : Int) : cnt [b] p = hit b.a b.o p := by simp [cnt]

theorem rise_ne {b : Bk} {l : List Bk} (h : (b :: l).Pairwise Ahead) : ∀ x ∈ l, x.a ≠ b.a := fun x hx => by
  have := ((List.pairwise_cons.1 h).1 x hx).1
  have := pw_pos b.o
  omega
theorem drop_same {l : List Bk} {a o : Int} (h : ∀ x ∈ l, x.a ≠ a) : dropB l a o = l := by
  unfold dropB
  rw [List.filter_eq_self]
  intro b hb
  have : isB a o b = false := decide_eq_false (fun g => h b hb g.1)
  rw [this]; rfl

theorem cnt_drop {l : List Bk} (hl : l.Pairwise Ahead) {a o : Int} (h : hasB l a o = true) (p : Int) : cnt l p = cnt (dropB l a o) p + hit a o p := by
  induction l with
  | nil => simp [hasB] at h
  | cons b l ih =>
    by_cases hb : isB a o b = true
    · obtain ⟨e1, e2⟩ := of_decide_eq_true hb
      have e : dropB (b :: l) a o = dropB l a o := by unfold dropB; rw [List.filter_cons]; simp [hb]
      rw [e, drop_same (fun x hx => by rw [← e1]; exact rise_ne hl x hx)]
      simp only [cnt, e1, e2]
      omega
    · have hb' : isB a o b = false := by simpa using hb
      have e : dropB (b :: l) a o = b :: dropB l a o := by unfold dropB; rw [List.filter_cons]; simp [hb']
      have h' : hasB l a o = true := by simpa [hasB, hb'] using h
      rw [e]
      simp only [cnt, ih (List.pairwise_cons.1 hl).2 h']
      omega

theorem cnt_add (l : List Bk) (b : Bk) (p : Int) : cnt (addB l b) p = cnt l p + hit b.a b.o p := by
  induction l with
  | nil => simp [addB, cnt]
  | cons x l ih =>
    unfold addB
    split
    · simp only [cnt]; omega
    · simp only [cnt, ih]; omega

theorem hit_join {a o : Int} (h0 : 0 ≤ o) (h4 : o < 4) (hm : a % pw o = 0) (p : Int) : (if besideA a o < a then besideA a o else a) % pw (o + 1) = 0 ∧ hit (if besideA a o < a then besideA a o else a) (o + 1) p = hit a o p + hit (besideA a o) o p := by
  obtain ⟨e, h | h⟩ := beside_cases h0 h4 hm
  · have hp := pw_pos o
    rw [h.2, if_neg (by omega)]
    refine ⟨h.1, ?_⟩
    unfold hit
    rw [e]
    repeat' split
    all_goals omega
  · have hp := pw_pos o
    rw [h.2.1, if_pos (by omega)]
    refine ⟨?_, ?_⟩
    · have h3 := h.2.2
      rw [e] at h3 ⊢
      have := Int.emod_add_mul_ediv a (2 * pw o)
      rw [h3] at this
      have e2 : a - pw o = 2 * pw o * (a / (2 * pw o)) := by omega
      rw [e2]
      exact Int.mul_emod_right _ _
    · unfold hit
      rw [e]
      repeat' split
      all_goals omega

theorem drop_ahead {l : List Bk} (h : l.Pairwise Ahead) (a o : Int) : (dropB l a o).Pairwise Ahead := List.Pairwise.filter _ h

theorem cnt_go : ∀ (n : Nat) (l : List Bk) (a o : Int), (4 - o).toNat = n → 0 ≤ o → a % pw o = 0 → l.Pairwise Ahead → ∀ p, cnt (backGo n l a o).1 p + hit (backGo n l a o).2.1 (backGo n l a o).2.2 p = cnt l p + hit a o p := by
  intro n
  induction n with
  | zero => intro l a o _ _ _ _ p; rfl
  | succ n ih =>
    intro l a o hn h0 hm hl p
    unfold backGo
    split
    · rename_i hb
      obtain ⟨j1, j2⟩ := hit_join h0 (by omega) hm p
      rw [ih _ _ _ (by omega) (by omega) j1 (drop_ahead hl _ _) p, j2, cnt_drop hl hb p]
      omega
    · rfl

theorem cnt_back {z : Zn} {a o : Int} (h : z.free.Pairwise Ahead) (h0 : 0 ≤ o) (hm : a % pw o = 0) (p : Int) : cnt (backZ z a o).free p = cnt z.free p + hit a o p := by
  show cnt (addB _ _) p = _
  rw [cnt_add]
  exact cnt_go (4 - o).toNat z.free a o rfl h0 hm h p

theorem cnt_halves (a t o : Int) (h0 : 0 ≤ o) (m : Nat) (p : Int) : cnt (halvesL a t o m) p + hit a o p = hit a (o + m) p := by
  induction m with
  | zero => simp [halvesL, cnt]
  | succ m ih =>
    have e : pw (o + ((m + 1 : Nat) : Int)) = 2 * pw (o + m) := by
      rw [show o + ((m + 1 : Nat) : Int) = o + m + 1 by omega]
      exact pw_succ _ (by omega)
    have hp := pw_pos (o + m)
    simp only [halvesL, cnt_append, cnt_one]
    have k : hit a (o + ((m + 1 : Nat) : Int)) p = hit a (o + m) p + hit (a + pw (o + m)) (o + m) p := by
      unfold hit
      rw [e]
      repeat' split
      all_goals omega
    omega

theorem cnt_steal (f F L t : Int) (l : List Bk) (p : Int) : cnt (l.map (stealB f F L t)) p = cnt l p := by
  induction l with
  | nil => rfl
  | cons b l ih => simp only [List.map_cons, cnt, ih, stealB_a, stealB_o]

theorem cnt_put {l h : List Bk} {i : Nat} (hi : i < l.length) {o : Int} (p : Int) (hh : cnt h p + hit (l.getD i .zero).a o p = hit (l.getD i .zero).a (l.getD i .zero).o p) :
    cnt (l.take i ++ (h ++ l.drop (i + 1))) p + hit (l.getD i .zero).a o p = cnt l p := by
  have e : cnt l p = cnt (l.take i) p + (hit (l.getD i .zero).a (l.getD i .zero).o p + cnt (l.drop (i + 1)) p) := by
    conv => lhs; rw [cut_at l hi]
    rw [cnt_append]
    rfl
  rw [e, cnt_append, cnt_append]
  omega

theorem cnt_take {z : Zn} {o t : Int} {i : Nat} (hi : i < z.free.length) (h0 : 0 ≤ o) (ho : o ≤ (z.free.getD i .zero).o) (p : Int) : cnt (takeZ z o t i).free p + hit (z.free.getD i .zero).a o p = cnt z.free p := by
  have e : o + (((z.free.getD i .zero).o - o).toNat : Int) = (z.free.getD i .zero).o := by omega
  have hh : ∀ u, cnt (halvesL (z.free.getD i .zero).a u o ((z.free.getD i .zero).o - o).toNat) p + hit (z.free.getD i .zero).a o p = hit (z.free.getD i .zero).a (z.free.getD i .zero).o p := fun u => by
    rw [cnt_halves _ _ _ h0, e]
  unfold takeZ
  dsimp only
  split
  · have k := cnt_put (l := z.free.map (stealB z.f (grpF z (z.free.getD i .zero)) (grpL z (z.free.getD i .zero)) t)) (h := halvesL (z.free.getD i .zero).a t o ((z.free.getD i .zero).o - o).toNat) (i := i) (by simpa using hi) (o := o) p (by rw [map_getD _ hi, stolen_self]; exact hh t)
    rw [map_getD _ hi, stolen_self, cnt_steal] at k
    exact k
  · exact cnt_put hi p (hh _)

theorem cnt_ge {l : List Bk} {i : Nat} (hi : i < l.length) (p : Int) : hit (l.getD i .zero).a (l.getD i .zero).o p ≤ cnt l p := by
  rw [cut_at l hi, cnt_append]
  simp only [cnt]
  have e : (l.take i ++ l.getD i .zero :: l.drop (i + 1)).getD i .zero = l.getD i .zero := by rw [← cut_at l hi]
  rw [e]
  omega

/-- A block whose pages are in no other one overlaps none. -/
theorem no_ovl {l : List Bk} {a o : Int} (h : ∀ p, cnt l p + hit a o p ≤ 1) : ¬ ovlP l a o := by
  rintro ⟨i, hi, h1, h2⟩
  have hp := pw_pos o
  have hq := pw_pos (l.getD i .zero).o
  by_cases c : a ≤ (l.getD i .zero).a
  · have k := h (l.getD i .zero).a
    have g := cnt_ge hi (l.getD i .zero).a
    have e1 : hit (l.getD i .zero).a (l.getD i .zero).o (l.getD i .zero).a = 1 := if_pos ⟨by omega, by omega⟩
    have e2 : hit a o (l.getD i .zero).a = 1 := if_pos ⟨c, h1⟩
    omega
  · have k := h a
    have g := cnt_ge hi a
    have e1 : hit (l.getD i .zero).a (l.getD i .zero).o a = 1 := if_pos ⟨by omega, h2⟩
    have e2 : hit a o a = 1 := if_pos ⟨by omega, by omega⟩
    omega

/-- Pages that come back one by one. -/
theorem give_cnt : ∀ (n : Nat) (z : Zn) (a : Int), ZMay z → z.f ≤ a → a + n ≤ z.t → (∀ p, a ≤ p → cnt z.free p = 0) →
    ∃ Y, giveK n z a = some Y ∧ ZMay Y ∧ Y.f = z.f ∧ Y.t = z.t ∧ Y.types = z.types ∧ ∀ p, cnt Y.free p = cnt z.free p + (if a ≤ p ∧ p < a + n then 1 else 0) := by
  intro n
  induction n with
  | zero =>
    intro z a hM _ _ _
    refine ⟨z, rfl, hM, rfl, rfl, rfl, fun p => ?_⟩
    rw [if_neg (by omega)]
    rfl
  | succ n ih =>
    intro z a hM h1 h2 h3
    have hin := page_in (z := z) (p := a) h1 (by omega)
    have hah := (free_iff.1 hM.free).2
    have hno : ¬ ovlP z.free a 0 := by
      rintro ⟨i, hi, g1, g2⟩
      rw [pw_0] at g1
      have hq := pw_pos (z.free.getD i .zero).o
      have := h3 ((z.free.getD i .zero).a + pw (z.free.getD i .zero).o - 1) (by omega)
      have g := cnt_ge hi ((z.free.getD i .zero).a + pw (z.free.getD i .zero).o - 1)
      have e1 : hit (z.free.getD i .zero).a (z.free.getD i .zero).o ((z.free.getD i .zero).a + pw (z.free.getD i .zero).o - 1) = 1 := if_pos ⟨by omega, by omega⟩
      omega
    rw [give_some hno]
    have hc : ∀ p, cnt (backZ z a 0).free p = cnt z.free p + hit a 0 p := fun p => cnt_back hah (by omega) (by rw [pw_0]; omega) p
    obtain ⟨Y, e, k1, k2, k3, k4, k5⟩ := ih (backZ z a 0) (a + 1) (backZ_may hM hin hno) (by show z.f ≤ _; omega) (by show _ ≤ z.t; omega) (fun p hp => by
      rw [hc, h3 p (by omega)]
      unfold hit
      rw [pw_0, if_neg (by omega)])
    refine ⟨Y, e, k1, k2, k3, k4, fun p => ?_⟩
    rw [k5, hc]
    unfold hit
    rw [pw_0]
    repeat' split
    all_goals omega

end Go.Proofs.Ytbjlbmofdnkmiaa.Kit
