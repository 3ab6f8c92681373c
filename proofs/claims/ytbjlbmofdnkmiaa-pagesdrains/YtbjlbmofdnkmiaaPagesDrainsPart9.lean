/-
  OWN TEXTS, bundled: HcZs, HcCheck, HcZi, ZMayB, HZ, BIdx, BDel.
-/
import Derived.Test.YtbjlbmofdnkmiaaPagesDrainsPart7
import Derived.Test.YtbjlbmofdnkmiaaPagesDrainsPart8
import Derived.Test.YtbjlbmofdnkmiaaPagesDrainsPart4
import Derived.Test.YtbjlbmofdnkmiaaPagesDrainsPart5
import Derived.Test.YtbjlbmofdnkmiaaPagesDrainsPart6

/-
  OWN TEXT. Contracts of the code: pages.zonesMayBe, minsMayBe, Check.
-/
namespace Go.Proofs.Ytbjlbmofdnkmiaa
open Go Go.RowKit Go.Proofs.Ytbjlbmofdnkmiaa.Kit

theorem zoneOf_hp (x : Hx) (i : Nat) : x.hp.zones.getD i ⟨0, 0, [], []⟩ = (x.zs.getD i .zero).z := by
  show (x.zs.map (·.z)).getD i _ = _
  rw [List.getD_eq_getElem?_getD, List.getD_eq_getElem?_getD, List.getElem?_map]
  cases x.zs[i]? <;> rfl
theorem listOf_hp (x : Hx) (i : Nat) : x.hp.lists.getD i .zero = (x.ls.getD i .zero).l := by
  show (x.ls.map (·.l)).getD i _ = _
  rw [List.getD_eq_getElem?_getD, List.getD_eq_getElem?_getD, List.getElem?_map]
  cases x.ls[i]? <;> rfl

set_option maxRecDepth 4000 in
set_option maxHeartbeats 4000000 in
theorem pZonesMay_any (w : World) (x : Hx) (hx : x.At w) :
    Calls Try.prog 31 #[.slice x.zo x.zn x.zc] w fun e w' => RetIff e (ZsOk x.hp) ∧ Below w.heap.size w w' := by
  have hlen : x.hp.zones.length = x.zn := by show (x.zs.map _).length = _; rw [List.length_map]; exact hx.zones.len
  have HNo : Hid (∀ e, (e = Ending.returned (.bool false)) → ¬ ZsOk x.hp → RetIff e (ZsOk x.hp)) := fun e he hn => ⟨false, he, by simp [hn]⟩
  have hZ := hx.zones
  obtain ⟨zo, hzo⟩ : ∃ zo, x.zo = zo := ⟨_, rfl⟩
  rw [hzo] at hZ ⊢
  clear hzo
  have rz := hZ.reach
  obtain ⟨zn, hzn⟩ : ∃ zn, x.zn = zn := ⟨_, rfl⟩
  rw [hzn] at hZ rz hlen ⊢
  clear hzn
  by_cases h2 : zn = 2
  · subst h2
    obtain ⟨g, off, z, fo, fn, fc, to_, tn, tc, ha, c0, c1, c2, c3, hat, hX⟩ := hZ.at 0 (by omega)
    obtain ⟨g', off', z', fo', fn', fc', to', tn', tc', ha', d0, d1, d2, d3, hat', hX'⟩ := hZ.at 1 (by omega)
    subst ha
    simp only [Option.some.injEq, Addr.mk.injEq, and_true] at ha'
    obtain ⟨rfl, rfl⟩ := ha'
    have e0 : x.hp.zones.getD 0 ⟨0, 0, [], []⟩ = z := by rw [zoneOf_hp, hX.out]
    have e1 : x.hp.zones.getD 1 ⟨0, 0, [], []⟩ = z' := by rw [zoneOf_hp, hX'.out]
    have HZ : Hid (ZsOk x.hp ↔ ZMay z ∧ ZMay z' ∧ z.f = 0 ∧ z'.f = z.t ∧ z'.t = 256) := by
      show _ ↔ _
      constructor
      · rintro ⟨_, b, c, d, e, f⟩
        rw [e0] at b d e
        rw [e1] at c e f
        exact ⟨b, c, d, e, f⟩
      · rintro ⟨b, c, d, e, f⟩
        exact ⟨hlen, by rw [e0]; exact b, by rw [e1]; exact c, by rw [e0]; exact d, by rw [e0, e1]; exact e, by rw [e1]; exact f⟩
    have HC0 := zCheck_any w fo fn fc to_ tn tc z hat
    have HC1 := fun W (hb : Below w.heap.size w W) => zCheck_any W fo' fn' fc' to' tn' tc' z' (hat'.below hb)
    have HC1' : Hid _ := HC1
    have cc0 : w.cell? ⟨g, off + 0 * 4, none⟩ = some (.int .i64 z.f) := c0
    simp only [Nat.zero_mul, Nat.add_zero, Nat.one_mul] at c0 c1 c2 c3 d0 d1 d2 d3
    clear HC1 e0 e1 hX hX' hlen hat hat' cc0
    go_enter Try.func31, Try.ntmps31
    go_wp2_with fail
    go_at_call 63
    refine HC0.mono ?_
    rintro e W1 ⟨⟨c, rfl, hc⟩, hb1⟩
    rcases hc with ⟨rfl, hM⟩ | ⟨rfl, hM⟩
    · replace d0 := keep d0 hb1
      replace d1 := keep d1 hb1
      replace d2 := keep d2 hb1
      replace d3 := keep d3 hb1
      replace c0 := keep c0 hb1
      replace c1 := keep c1 hb1
      have HC := HC1'.out W1 hb1
      clear HC0 HC1'
      go_wp2_with fail
      go_at_call 63
      refine HC.mono ?_
      rintro e W2 ⟨⟨c, rfl, hc⟩, hb2⟩
      have hB2 := hb1.trans (hb2.mono hb1.size)
      rcases hc with ⟨rfl, hM'⟩ | ⟨rfl, hM'⟩
      · replace c0 := keep c0 hb2
        replace c1 := keep c1 hb2
        replace d0 := keep d0 hb2
        replace d1 := keep d1 hb2
        have HZ2 : Hid (ZsOk x.hp ↔ z.f = 0 ∧ z'.f = z.t ∧ z'.t = 256) := by show _ ↔ _; rw [HZ.out]; exact ⟨fun h => h.2.2, fun h => ⟨hM, hM', h⟩⟩
        obtain ⟨F, hF⟩ : ∃ F, z.f = F := ⟨_, rfl⟩
        obtain ⟨T, hT⟩ : ∃ F, z.t = F := ⟨_, rfl⟩
        obtain ⟨F', hF'⟩ : ∃ F, z'.f = F := ⟨_, rfl⟩
        obtain ⟨T', hT'⟩ : ∃ F, z'.t = F := ⟨_, rfl⟩
        rw [hF, hT, hF', hT'] at HZ2
        rw [hF] at c0
        rw [hT] at c1
        rw [hF'] at d0
        rw [hT'] at d1
        clear HC d2 d3 c2 c3 hM hM' HZ
        clear hF hT hF' hT'
        go_wp2_with fail
        have fin : ∀ (r : Bool) (W : World), ((r = true) ↔ (F = 0 ∧ F' = T ∧ T' = 256)) → Below w.heap.size w W → RetIff (.returned (.bool r)) (ZsOk x.hp) ∧ Below w.heap.size w W := fun r W h hB => ⟨⟨r, rfl, by rw [HZ2.out]; exact h⟩, hB⟩
        have fin' : Hid _ := fin
        clear fin
        by_cases q1 : F = 0
        · have p1 : (F == 0) = true := by simp [q1]
          by_cases q2 : F' = T
          · have p2 : (F' == T) = true := by simp [q2]
            have H2 : Hid (F = 0 ∧ F' = T) := ⟨q1, q2⟩
            by_cases q3 : T' = 256
            · have p3 : (T' == 256) = true := by simp [q3]
              have H3 : Hid (T' = 256) := q3
              clear q1 q2 q3
              go_quiet (fail)
              go_wp2
              go_ret
              exact fin'.out _ _ ⟨fun _ => ⟨H2.out.1, H2.out.2, H3.out⟩, fun _ => by simp⟩ (hB2.trans ((below_drawn _).mono hB2.size))
            · have p3 : (T' == 256) = false := by simpa using q3
              have H3 : Hid (¬ T' = 256) := q3
              clear q1 q2 q3
              go_quiet (fail)
              go_wp2
              go_ret
              exact fin'.out _ _ ⟨fun h => by simp at h, fun h => absurd h.2.2 H3.out⟩ (hB2.trans ((below_drawn _).mono hB2.size))
          · have p2 : (F' == T) = false := by simpa using q2
            have H3 : Hid (¬ F' = T) := q2
            clear q1 q2
            go_quiet (fail)
            go_wp2
            go_ret
            exact fin'.out _ _ ⟨fun h => by simp at h, fun h => absurd h.2.1 H3.out⟩ (hB2.trans ((below_drawn _).mono hB2.size))
        · have p1 : (F == 0) = false := by simpa using q1
          have H3 : Hid (¬ F = 0) := q1
          clear q1
          go_quiet (fail)
          go_wp2
          go_ret
          exact fin'.out _ _ ⟨fun h => by simp at h, fun h => absurd h.1 H3.out⟩ (hB2.trans ((below_drawn _).mono hB2.size))
      · have hn : Hid (¬ ZsOk x.hp) := fun h => hM' (HZ.out.1 h).2.1
        clear HC HZ d0 d1 d2 d3 c0 c1 c2 c3
        go_wp2
        go_ret
        exact ⟨HNo.out _ rfl hn.out, hB2⟩
    · have hn : Hid (¬ ZsOk x.hp) := fun h => hM (HZ.out.1 h).1
      clear HC0 HC1' HZ d0 d1 d2 d3 c0 c1 c2 c3
      go_wp2
      go_ret
      exact ⟨HNo.out _ rfl hn.out, hb1⟩
  · have hn : Hid (¬ ZsOk x.hp) := fun h => h2 (by have := h.n; omega)
    obtain ⟨N, hN⟩ : ∃ N : Int, (zn : Int) = N := ⟨_, rfl⟩
    have q2 : (N == 2) = false := by simp; omega
    go_enter Try.func31, Try.ntmps31
    go_wp2
    go_ret
    exact ⟨HNo.out _ rfl hn.out, Below.refl _ _⟩

set_option maxRecDepth 4000 in
set_option maxHeartbeats 2000000 in
theorem pMinsMay_any (w : World) (x : Hx) (hx : x.At w) :
    Calls Try.prog 32 #[.slice x.mo x.mn x.mc] w fun e w' => RetIff e (MnOk x.hp) ∧ Below w.heap.size w w' := by
  have hM := hx.mins
  have HNo : Hid (∀ e, (e = Ending.returned (.bool false)) → ¬ MnOk x.hp → RetIff e (MnOk x.hp)) := fun e he hn => ⟨false, he, by simp [hn]⟩
  have hlen : x.hp.mins.length = x.mn := hM.len
  obtain ⟨mo, hmo⟩ : ∃ zo, x.mo = zo := ⟨_, rfl⟩
  rw [hmo] at hM ⊢
  clear hmo
  have rz := hM.reach
  obtain ⟨mn, hmn⟩ : ∃ zn, x.mn = zn := ⟨_, rfl⟩
  rw [hmn] at hM rz hlen ⊢
  clear hmn
  by_cases h2 : mn = 2
  · subst h2
    obtain ⟨g, off, a, ha, c0, hA⟩ := hM.at_.at 0 (by have := hM.len; omega)
    obtain ⟨g', off', b, ha', d0, hB⟩ := hM.at_.at 1 (by have := hM.len; omega)
    subst ha
    simp only [Option.some.injEq, Addr.mk.injEq, and_true] at ha'
    obtain ⟨rfl, rfl⟩ := ha'
    have HZ : Hid (MnOk x.hp ↔ (0 ≤ a ∧ a ≤ 256) ∧ (0 ≤ b ∧ b ≤ 256)) := by
      show _ ↔ _
      have e0 : x.hp.mins.getD 0 0 = a := hA.out
      have e1 : x.hp.mins.getD 1 0 = b := hB.out
      constructor
      · rintro ⟨_, p, q⟩
        rw [e0] at p
        rw [e1] at q
        exact ⟨p, q⟩
      · rintro ⟨p, q⟩
        exact ⟨hlen, by rw [e0]; exact p, by rw [e1]; exact q⟩
    have H0 := pIsMin_any w a
    have H1 := pIsMin_any w b
    simp only [Nat.add_zero] at c0
    clear hA hB hM hlen
    go_enter Try.func32, Try.ntmps32
    go_wp2_with fail
    go_at_call 21
    refine H0.mono ?_
    rintro e W1 ⟨rfl, rfl⟩
    by_cases q1 : 0 ≤ a ∧ a ≤ 256
    · rw [inB_t q1]
      go_wp2_with fail
      go_at_call 21
      refine H1.mono ?_
      rintro e W1 ⟨rfl, rfl⟩
      by_cases q2 : 0 ≤ b ∧ b ≤ 256
      · rw [inB_t q2]
        have hy : Hid (MnOk x.hp) := HZ.out.2 ⟨q1, q2⟩
        clear HZ H0 H1
        go_wp2
        go_ret
        exact ⟨⟨true, rfl, fun _ => hy.out, fun _ => rfl⟩, Below.refl _ _⟩
      · rw [inB_f q2]
        have hn : Hid (¬ MnOk x.hp) := fun h => q2 (HZ.out.1 h).2
        clear HZ H0 H1
        go_wp2
        go_ret
        exact ⟨HNo.out _ rfl hn.out, Below.refl _ _⟩
    · rw [inB_f q1]
      have hn : Hid (¬ MnOk x.hp) := fun h => q1 (HZ.out.1 h).1
      clear HZ H0 H1
      go_wp2
      go_ret
      exact ⟨HNo.out _ rfl hn.out, Below.refl _ _⟩
  · have hn : Hid (¬ MnOk x.hp) := fun h => h2 (by have := h.n; omega)
    have q2 : ((mn : Int) == 2) = false := by simp; omega
    clear h2
    go_enter Try.func32, Try.ntmps32
    go_wp2
    go_ret
    exact ⟨HNo.out _ rfl hn.out, Below.refl _ _⟩

end Go.Proofs.Ytbjlbmofdnkmiaa

/-
  OWN TEXT. Contracts of the code: pages.Check.
-/
namespace Go.Proofs.Ytbjlbmofdnkmiaa
open Go Go.RowKit Go.Proofs.Ytbjlbmofdnkmiaa.Kit

theorem lss_to {x : Hx} (hw : ∃ w, x.At w) (hz : ZsOk x.hp) (h : LssOk x.hp) : LssOkX x := by
  obtain ⟨w, hx⟩ := hw
  have e1 : x.hp.lists.length = x.ln := by show (x.ls.map _).length = _; rw [List.length_map]; exact hx.lists.len
  have e2 : x.zn = 2 := by have := hz.n; have e : x.hp.zones.length = x.zn := by show (x.zs.map _).length = _; rw [List.length_map]; exact hx.zones.len
                           omega
  refine ⟨fun i hi => ?_, fun i h0 hi => ?_⟩
  · have := h.ok i (by omega)
    rw [listOf_hp] at this
    have hc := this.c
    have hp := this.p
    rw [zoneOf_hp] at hp
    exact ⟨⟨hc.1, by have : x.hp.cpus = x.cpus := rfl; omega⟩, by have := this.z; omega, this.t, this.n, hp⟩
  · have := h.ord i h0 (by omega)
    rw [listOf_hp, listOf_hp] at this
    exact this
theorem lss_of {x : Hx} (hw : ∃ w, x.At w) (hz : ZsOk x.hp) (h : LssOkX x) : LssOk x.hp := by
  obtain ⟨w, hx⟩ := hw
  have e1 : x.hp.lists.length = x.ln := by show (x.ls.map _).length = _; rw [List.length_map]; exact hx.lists.len
  have e2 : x.zn = 2 := by have := hz.n; have e : x.hp.zones.length = x.zn := by show (x.zs.map _).length = _; rw [List.length_map]; exact hx.zones.len
                           omega
  refine ⟨fun i hi => ?_, fun i h0 hi => ?_⟩
  · have := h.ok i (by omega)
    rw [listOf_hp]
    have hc := this.c
    have hp := this.p
    exact ⟨⟨hc.1, by have : x.hp.cpus = x.cpus := rfl; omega⟩, by have := this.z; omega, this.t, this.n, by rw [zoneOf_hp]; exact hp⟩
  · have := h.ord i h0 (by omega)
    rw [listOf_hp, listOf_hp]
    exact this

theorem free_inP {z : Zn} (h : ZMay z) (i : Nat) (hi : i < z.free.length) : InP (z.free.getD i .zero) := by
  have hb := (freeOk_at h.free hi rfl).1
  obtain ⟨n1, n2, n3, n4, n5⟩ := h.new
  obtain ⟨o, b1, b2, b3⟩ := hb
  refine ⟨o, by omega, ?_⟩
  rcases ord_cases o with ⟨e, q⟩ | ⟨e, q⟩ | ⟨e, q⟩ | ⟨e, q⟩ | ⟨e, q⟩ <;> rw [q] at b3 ⊢ <;> omega
theorem two_zones {x : Hx} (hz : ZsOk x.hp) : ∀ z ∈ x.zs, z = x.zs.getD 0 .zero ∨ z = x.zs.getD 1 .zero := by
  intro z hm
  have hn : x.zs.length = 2 := by have := hz.n; have e : x.hp.zones.length = x.zs.length := by show (x.zs.map _).length = _; rw [List.length_map]
                                  omega
  obtain ⟨i, hi, rfl⟩ := List.getElem_of_mem hm
  rcases (show i = 0 ∨ i = 1 by omega) with rfl | rfl
  · left; rw [List.getD_eq_getElem?_getD, List.getElem?_eq_getElem hi]; rfl
  · right; rw [List.getD_eq_getElem?_getD, List.getElem?_eq_getElem hi]; rfl
theorem free_in {x : Hx} (hz : ZsOk x.hp) : ∀ z ∈ x.zs, ∀ i, i < z.z.free.length → InP (z.z.free.getD i .zero) := by
  intro z hm i hi
  have h0 := hz.m0
  have h1 := hz.m1
  rw [zoneOf_hp] at h0 h1
  rcases two_zones hz z hm with rfl | rfl
  · exact free_inP h0 i hi
  · exact free_inP h1 i hi
theorem page_in {x : Hx} (hz : ZsOk x.hp) (hl : LssOk x.hp) : ∀ l ∈ x.ls, ∀ i, i < l.l.pages.length → 0 ≤ l.l.pages.getD i 0 ∧ l.l.pages.getD i 0 < 256 := by
  intro l hm i hi
  obtain ⟨k, hk, rfl⟩ := List.getElem_of_mem hm
  have h := hl.ok k (by show k < (x.ls.map _).length; rw [List.length_map]; exact hk)
  rw [listOf_hp] at h
  have e : x.ls.getD k .zero = x.ls[k] := by rw [List.getD_eq_getElem?_getD, List.getElem?_eq_getElem hk]; rfl
  rw [e] at h
  have hp := h.p i hi
  have hzz := h.z
  have h0 := hz.m0.new
  have h1 := hz.m1.new
  have f0 := hz.f0
  have f1 := hz.f1
  have t1 := hz.t1
  obtain ⟨a1, a2, a3, _, _⟩ := h0
  obtain ⟨b1, b2, b3, _, _⟩ := h1
  rcases (show x.ls[k].l.z.toNat = 0 ∨ x.ls[k].l.z.toNat = 1 by omega) with q | q
  · rw [q] at hp; omega
  · rw [q] at hp; omega
theorem live_in {l : List Bk} (h : LvsOk l) : ∀ i, i < l.length → InP (l.getD i .zero) := fun i hi => (h.ok i hi).inP

set_option maxRecDepth 4000 in
set_option maxHeartbeats 4000000 in
theorem pCheck_any (w : World) (x : Hx) (hx : x.At w) :
    Calls Try.prog 11 #[.agg #[.slice x.zo x.zn x.zc, .slice x.mo x.mn x.mc, .int .i64 x.cpus, .slice x.lo x.ln x.lc, .slice x.vo x.vn x.vc]] w fun e w' => (∃ c, e = .returned (.int .i64 c) ∧ (c = 0 ∧ HMay x.hp ∨ c = 8 ∧ ¬ HMay x.hp)) ∧ Below w.heap.size w w' := by
  have hex : ∃ w, x.At w := ⟨w, hx⟩
  have hb1 := below_box w (.cells #[.slice x.zo x.zn x.zc, .slice x.mo x.mn x.mc, .int .i64 x.cpus, .slice x.lo x.ln x.lc, .slice x.vo x.vn x.vc] 28)
  have A1 := hbox_new w (.slice x.zo x.zn x.zc) (.slice x.mo x.mn x.mc) (.int .i64 x.cpus) (.slice x.lo x.ln x.lc) (.slice x.vo x.vn x.vc) 28
  obtain ⟨W0, hW0⟩ : ∃ W0, w.alloc (.cells #[.slice x.zo x.zn x.zc, .slice x.mo x.mn x.mc, .int .i64 x.cpus, .slice x.lo x.ln x.lc, .slice x.vo x.vn x.vc] 28) = W0 := ⟨_, rfl⟩
  rw [hW0] at A1 hb1
  have HW0 : Hid _ := hW0
  clear hW0
  replace hx := hx.below hb1
  have HNo : Hid (∀ e, (e = Ending.returned (.int .i64 8)) → ¬ HMay x.hp → (∃ c, e = .returned (.int .i64 c) ∧ (c = 0 ∧ HMay x.hp ∨ c = 8 ∧ ¬ HMay x.hp))) := fun e he hn => ⟨8, he, .inr ⟨rfl, hn⟩⟩
  have HX0 := pZonesMay_any W0 x hx
  have c0 := A1.c0
  go_enter Try.func11, Try.ntmps11
  go_wp2_with (rw [HW0.out])
  clear HW0
  go_at_call 31
  refine HX0.mono ?_
  rintro e W1 ⟨⟨r, rfl, hr⟩, hb⟩
  have hB : Below w.heap.size w W1 := hb1.trans (hb.mono hb1.size)
  replace A1 := A1.below hb
  replace hx := hx.below hb
  clear hb HX0 hb1 c0
  have HR : Hid _ := hr
  clear hr
  cases r with
  | false =>
    have hn : Hid (¬ HMay x.hp) := fun h => absurd (HR.out.2 h.zs) (by simp)
    clear HR A1
    go_wp2
    go_ret
    exact ⟨HNo.out _ rfl hn.out, hB⟩
  | true =>
  have Hz : Hid (ZsOk x.hp) := HR.out.1 rfl
  clear HR
  have HX1 := pMinsMay_any W1 x hx
  have c1 := A1.c1
  go_wp2_with fail
  go_at_call 32
  refine HX1.mono ?_
  rintro e W2 ⟨⟨r, rfl, hr⟩, hb⟩
  replace hB := hB.trans (hb.mono hB.size)
  replace A1 := A1.below hb
  replace hx := hx.below hb
  clear hb HX1 c1
  have HR : Hid _ := hr
  clear hr
  cases r with
  | false =>
    have hn : Hid (¬ HMay x.hp) := fun h => absurd (HR.out.2 h.mn) (by simp)
    clear HR A1
    go_wp2
    go_ret
    exact ⟨HNo.out _ rfl hn.out, hB⟩
  | true =>
  have Hm : Hid (MnOk x.hp) := HR.out.1 rfl
  clear HR
  have HX2 := pAreCpus_any W2 x.cpus
  have c2 := A1.c2
  go_wp2_with fail
  go_at_call 22
  refine HX2.mono ?_
  rintro e W2' ⟨rfl, rfl⟩
  clear HX2 c2
  by_cases hc : 1 ≤ x.cpus ∧ x.cpus ≤ 4
  rotate_left
  · rw [inB_f hc]
    have hn : Hid (¬ HMay x.hp) := fun h => hc h.cpus
    clear A1
    go_wp2
    go_ret
    exact ⟨HNo.out _ rfl hn.out, hB⟩
  rw [inB_t hc]
  have HX3 := pListsMay_any W2 x hx
  have c0 := A1.c0
  have c1 := A1.c1
  have c2 := A1.c2
  have c3 := A1.c3
  have c4 := A1.c4
  go_wp2_with fail
  go_at_call 33
  refine HX3.mono ?_
  rintro e W3 ⟨⟨r, rfl, hr⟩, hb⟩
  replace hB := hB.trans (hb.mono hB.size)
  replace A1 := A1.below hb
  replace hx := hx.below hb
  clear hb HX3 c0 c1 c2 c3 c4
  have HR : Hid _ := hr
  clear hr
  cases r with
  | false =>
    have hn : Hid (¬ HMay x.hp) := fun h => absurd (HR.out.2 (lss_to hex h.zs h.ls)) (by simp)
    clear HR A1
    go_wp2
    go_ret
    exact ⟨HNo.out _ rfl hn.out, hB⟩
  | true =>
  have Hl : Hid (LssOk x.hp) := lss_of hex Hz.out (HR.out.1 rfl)
  clear HR
  have HX4 := pLiveMay_any W3 x.vo x.vn x.vc x.live hx.live
  have c4 := A1.c4
  go_wp2_with fail
  go_at_call 34
  refine HX4.mono ?_
  rintro e W4 ⟨⟨r, rfl, hr⟩, hb⟩
  replace hB := hB.trans (hb.mono hB.size)
  replace A1 := A1.below hb
  replace hx := hx.below hb
  clear hb HX4 c4
  have HR : Hid _ := hr
  clear hr
  cases r with
  | false =>
    have hn : Hid (¬ HMay x.hp) := fun h => absurd (HR.out.2 h.lv) (by simp)
    clear HR A1
    go_wp2
    go_ret
    exact ⟨HNo.out _ rfl hn.out, hB⟩
  | true =>
  have Hv : Hid (LvsOk x.live) := HR.out.1 rfl
  clear HR
  have HX5 := pApart_any W4 x hx (free_in Hz.out) (page_in Hz.out Hl.out) (live_in Hv.out)
  have c0 := A1.c0
  have c1 := A1.c1
  have c2 := A1.c2
  have c3 := A1.c3
  have c4 := A1.c4
  go_wp2_with fail
  go_at_call 35
  refine HX5.mono ?_
  rintro e W5 ⟨⟨r, rfl, hr⟩, hb⟩
  replace hB := hB.trans (hb.mono hB.size)
  clear hb HX5 c0 c1 c2 c3 c4 A1
  have HR : Hid _ := hr
  clear hr
  cases r with
  | false =>
    have hn : Hid (¬ HMay x.hp) := fun h => absurd (HR.out.2 h.apart) (by simp)
    clear HR
    go_wp2
    go_ret
    exact ⟨HNo.out _ rfl hn.out, hB⟩
  | true =>
    have hy : Hid (HMay x.hp) := ⟨Hz.out, Hm.out, hc, Hl.out, Hv.out, HR.out.1 rfl⟩
    clear HR
    go_wp2
    go_ret
    exact ⟨⟨0, rfl, .inl ⟨rfl, hy.out⟩⟩, hB⟩

end Go.Proofs.Ytbjlbmofdnkmiaa

/-
  OWN TEXT. The zone that a page is in: pages.zoneOf and the document's zoneAt (written by sxd.py).
-/
namespace Go.Proofs.Ytbjlbmofdnkmiaa
open Go Go.RowKit Go.Proofs.Ytbjlbmofdnkmiaa.Kit

/-- The place of the zone that a page is in. -/
def zIdx (H : Hp) (p : Int) : Nat := if p < (H.zones.getD 0 ⟨0, 0, [], []⟩).t then 0 else 1
theorem zIdx_lt (H : Hp) (p : Int) : zIdx H p < 2 := by unfold zIdx; split <;> omega

set_option maxRecDepth 10000 in
set_option maxHeartbeats 4000000 in
theorem pZoneOf_c (w : World) (x : Hx) (p : Int) (hx : x.At w) (hz : x.zn = 2) :
    Calls Try.prog 83 #[.agg #[.slice x.zo x.zn x.zc, .slice x.mo x.mn x.mc, .int .i64 x.cpus, .slice x.lo x.ln x.lc, .slice x.vo x.vn x.vc], .int .i64 p] w fun e w' => e = .returned (.int .i64 (zIdx x.hp p : Nat)) ∧ Below w.heap.size w w' := by
  have B0 := Below.refl w.heap.size w
  refine sx_enter (args := [_, _]) 12 Try.func83 rfl rfl rfl ?_
  intro A f
  refine wp_seq ?_
  refine sx_list ?_
  refine l_box f rfl rfl rfl rfl rfl ?_; clear f A; intro b1 W2 eb1 hb3 rb1 A f; dsimp only [Value.cells] at rb1
  have z_B0_b1 := B0.size; rw [eb1] at z_B0_b1
  replace B0 := Below.next B0 hb3
  refine l_do f rfl rfl rfl (y_assign rfl rfl) ?_; clear f A; intro A f
  refine wpList_nil ?_
  refine x_tn ?_
  refine wp_seq ?_
  refine wp_seq ?_
  refine sx_list ?_
  refine l_do f rfl rfl rfl (y_move rfl rfl) ?_; clear f A; intro A f
  refine l_do f rfl rfl rfl (y_field rfl rfl (fo rfl)) ?_; clear f A; intro A f
  refine l_do f rfl rfl rfl (y_load1 rfl rfl (ag rfl) (rowl (rowq rb1) rfl)) ?_; clear f A; intro A f
  obtain ⟨g0, o0, z0, fo0, fn0, fc0, to0, tn0, tc0, ha0, c00, c10, c20, c30, hat0, hX0⟩ := hx.zones.at (0) (by omega)
  replace c00 := St.of c00; replace c10 := St.of c10; replace c20 := St.of c20; replace c30 := St.of c30
  refine l_do f rfl rfl rfl (y_index (k := 0) rfl rfl (by first | rfl | assumption) rfl (es rfl) (by omega)) ?_; clear f A; intro A f
  refine l_do f rfl rfl rfl (y_field rfl rfl (fo rfl)) ?_; clear f A; intro A f
  refine l_do f rfl rfl rfl (y_load1 rfl rfl (ag rfl) (by first | assumption | exact St.q c00 B0 | exact St.q c10 B0 | exact St.q c20 B0 | exact St.q c30 B0)) ?_; clear f A; intro A f
  refine l_if _ f rfl rfl rfl (y_lss rfl rfl rfl) ?_ ?_
  · clear f A; intro c4 A f
    refine wpList_nil ?_
    refine x_tn ?_
    refine x_condT f rfl ?_
    refine wp_seq ?_
    refine sx_list ?_
    refine l_do f rfl rfl rfl (y_assign rfl rfl) ?_; clear f A; intro A f
    refine wpList_nil ?_
    refine x_tn ?_
    refine wp_ret ?_
    refine x_tr ?_
    refine x_ret1 f rfl rfl ?_
    -- return 0: c4@11
    have hi : zIdx x.hp p = 0 := by
      unfold zIdx
      rw [zoneOf_hp]
      exact if_pos (by rw [hX0.out]; dsimp only; omega)
    exact ⟨by rw [hi]; rfl, B0⟩
  · clear f A; intro c4 A f
    refine wpList_nil ?_
    refine x_tn ?_
    refine x_condF f rfl ?_
    refine wp_skip ?_
    refine x_tn ?_
    refine wp_seq ?_
    refine sx_list ?_
    refine l_do f rfl rfl rfl (y_assign rfl rfl) ?_; clear f A; intro A f
    refine wpList_nil ?_
    refine x_tn ?_
    refine wp_ret ?_
    refine x_ret1 f rfl rfl ?_
    -- return 1: ¬c4@11
    have hi : zIdx x.hp p = 1 := by
      unfold zIdx
      rw [zoneOf_hp]
      exact if_neg (by rw [hX0.out]; dsimp only; omega)
    exact ⟨by rw [hi]; rfl, B0⟩

set_option maxRecDepth 10000 in
set_option maxHeartbeats 4000000 in
theorem zoneAt_c (w : World) (x : Hx) (p : Int) (hx : x.At w) (hz : x.zn = 2) (h1 : (x.zs.getD 1 .zero).z.f = (x.zs.getD 0 .zero).z.t) :
    Calls Try.prog 52 #[.agg #[.slice x.zo x.zn x.zc, .slice x.mo x.mn x.mc, .int .i64 x.cpus, .slice x.lo x.ln x.lc, .slice x.vo x.vn x.vc], .int .i64 p] w fun e w' => e = .returned (.int .i64 (zIdx x.hp p : Nat)) ∧ Below w.heap.size w w' := by
  have B0 := Below.refl w.heap.size w
  refine sx_enter (args := [_, _]) 12 Try.func52 rfl rfl rfl ?_
  intro A f
  refine wp_seq ?_
  refine sx_list ?_
  refine l_box f rfl rfl rfl rfl rfl ?_; clear f A; intro b1 W2 eb1 hb3 rb1 A f; dsimp only [Value.cells] at rb1
  have z_B0_b1 := B0.size; rw [eb1] at z_B0_b1
  replace B0 := Below.next B0 hb3
  refine l_do f rfl rfl rfl (y_assign rfl rfl) ?_; clear f A; intro A f
  refine wpList_nil ?_
  refine x_tn ?_
  refine wp_seq ?_
  refine wp_seq ?_
  refine sx_list ?_
  refine l_do f rfl rfl rfl (y_move rfl rfl) ?_; clear f A; intro A f
  refine l_do f rfl rfl rfl (y_field rfl rfl (fo rfl)) ?_; clear f A; intro A f
  refine l_do f rfl rfl rfl (y_load1 rfl rfl (ag rfl) (rowl (rowq rb1) rfl)) ?_; clear f A; intro A f
  obtain ⟨g0, o0, z0, fo0, fn0, fc0, to0, tn0, tc0, ha0, c00, c10, c20, c30, hat0, hX0⟩ := hx.zones.at (1) (by omega)
  replace c00 := St.of c00; replace c10 := St.of c10; replace c20 := St.of c20; replace c30 := St.of c30
  refine l_do f rfl rfl rfl (y_index (k := 1) rfl rfl (by first | rfl | assumption) rfl (es rfl) (by omega)) ?_; clear f A; intro A f
  refine l_do f rfl rfl rfl (y_field rfl rfl (fo rfl)) ?_; clear f A; intro A f
  refine l_do f rfl rfl rfl (y_load1 rfl rfl (ag rfl) (by first | assumption | exact St.q c00 B0 | exact St.q c10 B0 | exact St.q c20 B0 | exact St.q c30 B0)) ?_; clear f A; intro A f
  refine l_if _ f rfl rfl rfl (y_geq rfl rfl rfl) ?_ ?_
  · clear f A; intro c4 A f
    refine wpList_nil ?_
    refine x_tn ?_
    refine x_condT f rfl ?_
    refine wp_seq ?_
    refine sx_list ?_
    refine l_do f rfl rfl rfl (y_assign rfl rfl) ?_; clear f A; intro A f
    refine wpList_nil ?_
    refine x_tn ?_
    refine wp_ret ?_
    refine x_tr ?_
    refine x_ret1 f rfl rfl ?_
    -- return 0: c4@11
    have hi : zIdx x.hp p = 1 := by
      unfold zIdx
      rw [zoneOf_hp]
      exact if_neg (by rw [← h1, hX0.out]; dsimp only; omega)
    exact ⟨by rw [hi]; rfl, B0⟩
  · clear f A; intro c4 A f
    refine wpList_nil ?_
    refine x_tn ?_
    refine x_condF f rfl ?_
    refine wp_skip ?_
    refine x_tn ?_
    refine wp_seq ?_
    refine sx_list ?_
    refine l_do f rfl rfl rfl (y_assign rfl rfl) ?_; clear f A; intro A f
    refine wpList_nil ?_
    refine x_tn ?_
    refine wp_ret ?_
    refine x_ret1 f rfl rfl ?_
    -- return 1: ¬c4@11
    have hi : zIdx x.hp p = 0 := by
      unfold zIdx
      rw [zoneOf_hp]
      exact if_pos (by rw [← h1, hX0.out]; dsimp only; omega)
    exact ⟨by rw [hi]; rfl, B0⟩

end Go.Proofs.Ytbjlbmofdnkmiaa

/-
  OWN TEXT. A zone that may be stays one when a block comes back: plain mathematics.
-/
namespace Go.Proofs.Ytbjlbmofdnkmiaa.Kit

/-- The first one ends ahead of the second one, and they are not beside each other. -/
def Ahead (p q : Bk) : Prop := p.a + pw p.o ≤ q.a ∧ ¬ besideP p q
/-- Each of them may be in the zone. -/
def AllIn (f t : Int) (l : List Bk) : Prop := ∀ b ∈ l, blkIn f t b.a b.o ∧ typeOk b.t

theorem freeOk_pw {f t lo : Int} {pv : Option Bk} {l : List Bk} (h : FreeOk f t lo pv l) : AllIn f t l ∧ (∀ b ∈ l, lo ≤ b.a) ∧ l.Pairwise Ahead := by
  induction l generalizing lo pv with
  | nil => exact ⟨fun b hb => by simp at hb, fun b hb => by simp at hb, List.Pairwise.nil⟩
  | cons b l ih =>
    obtain ⟨h1, h2, h3, _, h5⟩ := h
    obtain ⟨i1, i2, i3⟩ := ih h5
    have hp := pw_pos b.o
    refine ⟨fun x hx => ?_, fun x hx => ?_, List.Pairwise.cons (fun x hx => ⟨i2 x hx, ?_⟩) i3⟩
    · rcases List.mem_cons.1 hx with rfl | hx
      · exact ⟨h1, h2⟩
      · exact i1 x hx
    · rcases List.mem_cons.1 hx with rfl | hx
      · exact h3
      · have := i2 x hx; omega
    · cases l with
      | nil => simp at hx
      | cons c l =>
        obtain ⟨_, _, k3, k4, _⟩ := h5
        rcases List.mem_cons.1 hx with rfl | hx
        · exact k4 b rfl
        · have := (List.pairwise_cons.1 i3).1 x hx
          rintro ⟨_, e2, e3, _⟩
          have := this.1
          have hc := pw_pos c.o
          rw [← e2] at e3
          omega

theorem freeOk_of {f t lo : Int} {pv : Option Bk} {l : List Bk} (h1 : AllIn f t l) (h2 : ∀ b ∈ l, lo ≤ b.a) (h3 : l.Pairwise Ahead) (h4 : ∀ p, pv = some p → ∀ b ∈ l, ¬ besideP p b) : FreeOk f t lo pv l := by
  induction l generalizing lo pv with
  | nil => trivial
  | cons b l ih =>
    have hb := h1 b (by simp)
    have hp := List.pairwise_cons.1 h3
    exact ⟨hb.1, hb.2, h2 b (by simp), fun p e => h4 p e b (by simp), ih (fun x hx => h1 x (by simp [hx])) (fun x hx => (hp.1 x hx).1) hp.2 (fun p e x hx => by cases e; exact (hp.1 x hx).2)⟩

theorem free_iff {f t : Int} {l : List Bk} : FreeOk f t f none l ↔ AllIn f t l ∧ l.Pairwise Ahead :=
  ⟨fun h => ⟨(freeOk_pw h).1, (freeOk_pw h).2.2⟩, fun ⟨h1, h2⟩ => freeOk_of h1 (fun b hb => (h1 b hb).1.2.1) h2 (fun p e => by cases e)⟩

/-- It has no page in common with any of them. -/
def NoOv (l : List Bk) (a o : Int) : Prop := ∀ b ∈ l, b.a + pw b.o ≤ a ∨ a + pw o ≤ b.a
theorem noOv_of {l : List Bk} {a o : Int} (h : ¬ ovlP l a o) : NoOv l a o := by
  intro b hb
  obtain ⟨i, hi, rfl⟩ := List.getElem_of_mem hb
  by_cases h1 : l[i].a + pw l[i].o ≤ a
  · exact .inl h1
  · by_cases h2 : a + pw o ≤ l[i].a
    · exact .inr h2
    · exact absurd ⟨i, hi, by rw [List.getD_eq_getElem?_getD, List.getElem?_eq_getElem hi]; exact ⟨by simp only [Option.getD_some]; omega, by simp only [Option.getD_some]; omega⟩⟩ h

theorem ahead_or {l : List Bk} (h : l.Pairwise Ahead) {p q : Bk} (hp : p ∈ l) (hq : q ∈ l) (hne : ¬ (p.a = q.a ∧ p.o = q.o)) : Ahead p q ∨ Ahead q p := by
  obtain ⟨i, hi, rfl⟩ := List.getElem_of_mem hp
  obtain ⟨j, hj, rfl⟩ := List.getElem_of_mem hq
  rw [List.pairwise_iff_getElem] at h
  by_cases e : i < j
  · exact .inl (h i j hi hj e)
  · by_cases g : j < i
    · exact .inr (h j i hj hi g)
    · obtain rfl : i = j := by omega
      exact absurd ⟨rfl, rfl⟩ hne

theorem beside_cases {a o : Int} (h0 : 0 ≤ o) (h4 : o < 4) (hm : a % pw o = 0) : pw (o + 1) = 2 * pw o ∧ ((a % pw (o + 1) = 0 ∧ besideA a o = a + pw o) ∨ (¬ a % pw (o + 1) = 0 ∧ besideA a o = a - pw o ∧ a % pw (o + 1) = pw o)) := by
  rcases (show o = 0 ∨ o = 1 ∨ o = 2 ∨ o = 3 by omega) with rfl | rfl | rfl | rfl
  all_goals
    unfold besideA
    simp only [pw_0, pw_1, pw_2, pw_3, pw_4, show (0 : Int) + 1 = 1 from rfl, show (1 : Int) + 1 = 2 from rfl, show (2 : Int) + 1 = 3 from rfl, show (3 : Int) + 1 = 4 from rfl] at hm ⊢
    refine ⟨by omega, ?_⟩
    split
    · exact .inl ⟨by assumption, rfl⟩
    · exact .inr ⟨by assumption, rfl, by omega⟩

/-- What holds of a block that comes back, while it is joined. -/
structure GoI (f t : Int) (l : List Bk) (a o : Int) : Prop where
  all : AllIn f t l
  pw : l.Pairwise Ahead
  blk : blkIn f t a o
  no : NoOv l a o

theorem go_step {f t : Int} {l : List Bk} {a o : Int} (h : GoI f t l a o) (ho : o < 4) (hb : hasB l (besideA a o) o = true) : GoI f t (dropB l (besideA a o) o) (if besideA a o < a then besideA a o else a) (o + 1) := by
  obtain ⟨⟨o0, o4⟩, a1, a2, a3⟩ := h.blk
  have hbi : blkIn f t (besideA a o) o := hasB_in hb (fun b hb => (h.all b hb).1)
  refine ⟨fun b hb => h.all b (dropB_mem hb), List.Pairwise.filter _ h.pw, join_in h.blk hbi ho, fun b hb' => ?_⟩
  have hbl := dropB_mem hb'
  have hnb : isB (besideA a o) o b = false := by
    have := (List.mem_filter.1 hb').2
    simpa using this
  have hno := h.no b hbl
  unfold hasB at hb
  rw [List.any_eq_true] at hb
  obtain ⟨x, hx, hxi⟩ := hb
  obtain ⟨x1, x2⟩ := of_decide_eq_true hxi
  have hor := ahead_or h.pw hbl hx (by rw [x1, x2]; exact of_decide_eq_false hnb)
  have hp := pw_pos b.o
  have hpo := pw_pos o
  obtain ⟨e2, hc⟩ := beside_cases o0 ho a3
  rw [e2]
  unfold Ahead at hor
  rw [x1, x2] at hor
  rcases hc with ⟨_, hc⟩ | ⟨_, hc, _⟩
  · rw [hc] at hor ⊢
    rw [if_neg (by omega)]
    rcases hor with ⟨g, _⟩ | ⟨g, _⟩ <;> omega
  · rw [hc] at hor ⊢
    rw [if_pos (by omega)]
    rcases hor with ⟨g, _⟩ | ⟨g, _⟩ <;> omega

/-- What holds when it is joined. -/
theorem go_all {f t : Int} : ∀ (n : Nat) (l : List Bk) (a o : Int), (4 - o).toNat = n → GoI f t l a o →
    GoI f t (backGo n l a o).1 (backGo n l a o).2.1 (backGo n l a o).2.2 ∧ ((backGo n l a o).2.2 = 4 ∨ hasB (backGo n l a o).1 (besideA (backGo n l a o).2.1 (backGo n l a o).2.2) (backGo n l a o).2.2 = false) := by
  intro n
  induction n with
  | zero =>
    intro l a o hn h
    have := h.blk.1.2
    exact ⟨h, .inl (by show o = 4; omega)⟩
  | succ n ih =>
    intro l a o hn h
    unfold backGo
    by_cases hb : hasB l (besideA a o) o = true
    · rw [if_pos hb]
      exact ih _ _ _ (by omega) (go_step h (by omega) hb)
    · rw [if_neg hb]
      exact ⟨h, .inr (by simpa using hb)⟩

theorem mem_addB {l : List Bk} {b x : Bk} : x ∈ addB l b ↔ x = b ∨ x ∈ l := by
  induction l with
  | nil => simp [addB]
  | cons y l ih =>
    unfold addB
    split
    · simp
    · simp only [List.mem_cons, ih]
      constructor
      · rintro (h | h | h)
        · exact .inr (.inl h)
        · exact .inl h
        · exact .inr (.inr h)
      · rintro (h | h | h)
        · exact .inr (.inl h)
        · exact .inl h
        · exact .inr (.inr h)

theorem addB_pw {l : List Bk} {b : Bk} (h : l.Pairwise Ahead) (hno : NoOv l b.a b.o) (h1 : ∀ x ∈ l, ¬ besideP x b) (h2 : ∀ x ∈ l, ¬ besideP b x) : (addB l b).Pairwise Ahead := by
  have hp := pw_pos b.o
  induction l with
  | nil => exact List.pairwise_singleton _ _
  | cons x l ih =>
    have hx := List.pairwise_cons.1 h
    have hpx := pw_pos x.o
    have hnx := hno x (by simp)
    unfold addB
    split
    · rename_i hg
      refine List.Pairwise.cons (fun y hy => ⟨?_, h2 y hy⟩) h
      have hny := hno y hy
      rcases List.mem_cons.1 hy with rfl | hy'
      · omega
      · have := (hx.1 y hy').1
        have hpy := pw_pos y.o
        omega
    · rename_i hg
      refine List.Pairwise.cons (fun y hy => ?_) (ih hx.2 (fun y hy => hno y (by simp [hy])) (fun y hy => h1 y (by simp [hy])) (fun y hy => h2 y (by simp [hy])))
      rcases mem_addB.1 hy with rfl | hy
      · exact ⟨by omega, h1 x (by simp)⟩
      · exact hx.1 y hy

/-- A ZONE THAT MAY BE stays one when a block comes back. -/
theorem backZ_may {z : Zn} {a o : Int} (h : ZMay z) (hA : blkIn z.f z.t a o) (hv : ¬ ovlP z.free a o) : ZMay (backZ z a o) := by
  obtain ⟨q1, q2⟩ := free_iff.1 h.free
  obtain ⟨G, hl⟩ := go_all (f := z.f) (t := z.t) (4 - o).toNat z.free a o rfl ⟨q1, q2, hA, noOv_of hv⟩
  obtain ⟨R, hR⟩ : ∃ R, backGo (4 - o).toNat z.free a o = R := ⟨_, rfl⟩
  have hz : backZ z a o = ⟨z.f, z.t, addB R.1 ⟨R.2.1, R.2.2, z.types.getD ((R.2.1 - z.f) / 8).toNat 0⟩, z.types⟩ := by unfold backZ; rw [hR]
  rw [hR] at G hl
  obtain ⟨⟨o0, o4⟩, a1, a2, a3⟩ := G.blk
  have hlen := h.len
  have hty : typeOk (z.types.getD ((R.2.1 - z.f) / 8).toNat 0) := h.ty _ (by omega)
  rw [hz]
  refine ⟨h.new, h.len, h.ty, free_iff.2 ⟨fun b hb => ?_, addB_pw G.pw G.no (fun x hx => ?_) (fun x hx => ?_)⟩⟩
  · rcases mem_addB.1 hb with rfl | hb
    · exact ⟨G.blk, hty⟩
    · exact G.all b hb
  · rintro ⟨b1, b2, b3, b4⟩
    dsimp only at b1 b2 b3 b4
    obtain ⟨_, hc⟩ := beside_cases o0 b1 a3
    have hh : besideA R.2.1 R.2.2 = x.a := by
      rcases hc with ⟨g, _⟩ | ⟨_, g, _⟩
      · exfalso
        rw [← b3] at g
        rcases (show R.2.2 = 0 ∨ R.2.2 = 1 ∨ R.2.2 = 2 ∨ R.2.2 = 3 by omega) with e | e | e | e
        all_goals
          rw [e] at g b4
          simp only [pw_0, pw_1, pw_2, pw_3, pw_4, show (0 : Int) + 1 = 1 from rfl, show (1 : Int) + 1 = 2 from rfl, show (2 : Int) + 1 = 3 from rfl, show (3 : Int) + 1 = 4 from rfl] at g b4
          omega
      · omega
    rcases hl with g | g
    · omega
    · rw [hh] at g
      unfold hasB at g
      rw [List.any_eq_false] at g
      exact g x hx (decide_eq_true ⟨rfl, b2⟩)
  · rintro ⟨b1, b2, b3, b4⟩
    dsimp only at b1 b2 b3 b4
    rw [← b2] at b1 b3 b4
    have hh : besideA R.2.1 R.2.2 = x.a := by unfold besideA; rw [if_pos b4]; exact b3
    rcases hl with g | g
    · omega
    · rw [hh] at g
      unfold hasB at g
      rw [List.any_eq_false] at g
      exact g x hx (decide_eq_true ⟨rfl, b2.symm⟩)

end Go.Proofs.Ytbjlbmofdnkmiaa.Kit

/-
  OWN TEXT. A heap of pages whose row of zones may be written.
-/
namespace Go.Proofs.Ytbjlbmofdnkmiaa
open Go Go.RowKit Go.Proofs.Ytbjlbmofdnkmiaa.Kit

theorem splice4 {L : List Value} {o : Nat} (h : o + 4 ≤ L.length) (a b c d : Value) : L.take o ++ [a, b, c, d] ++ L.drop (o + 4) = (((L.set o a).set (o + 1) b).set (o + 2) c).set (o + 3) d := by
  apply List.ext_getElem?
  intro j
  by_cases h1 : j < o
  · rw [List.append_assoc, List.getElem?_append_left (by simp; omega)]
    simp only [List.getElem?_set]
    rw [if_neg (by omega), if_neg (by omega), if_neg (by omega), if_neg (by omega), List.getElem?_take_of_lt h1]
  · by_cases h2 : j < o + 4
    · rw [List.append_assoc, List.getElem?_append_right (by simp; omega), List.getElem?_append_left (by simp; omega)]
      simp only [List.getElem?_set, List.length_set, List.length_take]
      rw [Nat.min_eq_left (by omega)]
      rcases (show j = o ∨ j = o + 1 ∨ j = o + 2 ∨ j = o + 3 by omega) with rfl | rfl | rfl | rfl
      · rw [if_neg (by omega), if_neg (by omega), if_neg (by omega), if_pos rfl, if_pos (by omega)]; simp
      · rw [if_neg (by omega), if_neg (by omega), if_pos rfl, if_pos (by omega)]; simp
      · rw [if_neg (by omega), if_pos rfl, if_pos (by omega)]; simp
      · rw [if_pos rfl, if_pos (by omega)]; simp
    · rw [List.getElem?_append_right (by simp; omega)]
      simp only [List.getElem?_set]
      rw [if_neg (by omega), if_neg (by omega), if_neg (by omega), if_neg (by omega), List.getElem?_drop]
      congr 1
      simp
      omega

theorem own_set4 {w : World} {B n cap g : Nat} {e t : TypeId} {l : List Q4} (h : w.ownsRow B e 4 (.slice (some ⟨g, 0, none⟩) n cap) n (c4 l)) {i : Nat} (hi : i < n) (x : Q4) (hx : x.One) (hs : szB Try.prog t = some 4) :
    ∃ W, (storeVar t ⟨g, 0 + i * 4, none⟩ (.agg #[x.a, x.b, x.c, x.d])).run Try.prog w = .ok () W ∧ But g w W ∧ W.ownsRow B e 4 (.slice (some ⟨g, 0, none⟩) n cap) n (c4 (l.set i x)) := by
  have hl := c4owns_len h
  rcases h.2 with ⟨h', _⟩ | ⟨g', cap', cur, h', hB, hg, hc, hm, hsz, htake⟩
  · cases h'
  · simp only [Value.slice.injEq, Option.some.injEq, Addr.mk.injEq, true_and, and_true] at h'
    obtain ⟨rfl, rfl⟩ := h'
    have hfit : i * 4 + 4 ≤ cur.toList.length := by simp; omega
    have h1 : ∀ v ∈ [x.a, x.b, x.c, x.d], v.oneCell' = true := by
      intro v hv
      obtain ⟨p, q, r, s⟩ := hx
      simp only [List.mem_cons, List.not_mem_nil, or_false] at hv
      rcases hv with rfl | rfl | rfl | rfl <;> assumption
    have hrun := run_storeCells_at (P := Try.prog) g (i * 4) e [x.a, x.b, x.c, x.d] 0 cur w hg (by simp; omega) h1
    unfold szB at hs
    simp only [Option.map_eq_some_iff] at hs
    obtain ⟨inf, hi', hn⟩ := hs
    have hsv := run_storeVar' (P := Try.prog) (a := ⟨g, i * 4, none⟩) (v := .agg #[x.a, x.b, x.c, x.d]) hi' (by rw [hn]; rfl) hrun
    rw [Nat.zero_add]
    refine ⟨_, hsv, ⟨rfl, rfl, rfl, by simp [World.setRow], fun k _ hk => by simp [World.setRow, Array.getElem?_modify, Ne.symm hk]⟩, ?_⟩
    rw [← c4_set l i (by omega) x]
    refine ⟨by simp [length_c4]; omega, .inr ⟨g, cap, (cur.toList.take (i * 4) ++ [x.a, x.b, x.c, x.d] ++ cur.toList.drop (i * 4 + 4)).toArray, rfl, hB, by simp [World.setRow, Array.getElem?_modify, hg], hc, hm, ?_, ?_⟩⟩
    · simp; omega
    · rw [splice4 hfit x.a x.b x.c x.d]
      simp only [List.take_set, htake]

theorem blks_lt {w : World} {ao : Option Addr} {n : Nat} {l : List Bk} (h : Blks w ao n l) (h0 : 0 < l.length) : ∀ a, ao = some a → a.block < w.heap.size := by
  intro a ha
  obtain ⟨b, off, e, hc, _⟩ := h.at_ 0 h0
  rw [e] at ha
  cases ha
  exact World.block_lt_of_cell? w _ hc
theorem nums_lt {w : World} {ao : Option Addr} {n : Nat} {l : List Int} (h : Nums w ao n l) (h0 : 0 < l.length) : ∀ a, ao = some a → a.block < w.heap.size := by
  intro a ha
  obtain ⟨b, off, e, hc⟩ := h.at_ 0 h0
  rw [e] at ha
  cases ha
  exact World.block_lt_of_cell? w _ hc
theorem blks_but {w w' : World} {b : Nat} {ao : Option Addr} {n : Nat} {l : List Bk} (h : Blks w ao n l) (hb : But b w w') (hne : 0 < l.length → ∀ a, ao = some a → a.block ≠ b) : Blks w' ao n l := by
  by_cases h0 : 0 < l.length
  · exact hb.blks h (hne h0)
  · exact ⟨h.len, h.reach, fun i hi => absurd hi (by omega)⟩
theorem nums_but {w w' : World} {b : Nat} {ao : Option Addr} {n : Nat} {l : List Int} (h : Nums w ao n l) (hb : But b w w') (hne : 0 < l.length → ∀ a, ao = some a → a.block ≠ b) : Nums w' ao n l := by
  by_cases h0 : 0 < l.length
  · exact hb.nums h (hne h0)
  · exact ⟨h.len, h.reach, fun i hi => absurd hi (by omega)⟩
/-- No element of the heap lies in block b. -/
structure Away (b : Nat) (y : Hx) : Prop where
  f : ∀ z ∈ y.zs, 0 < z.z.free.length → ∀ a, z.fo = some a → a.block ≠ b
  t : ∀ z ∈ y.zs, 0 < z.z.types.length → ∀ a, z.to_ = some a → a.block ≠ b
  m : 0 < y.mins.length → ∀ a, y.mo = some a → a.block ≠ b
  l : 0 < y.ls.length → ∀ a, y.lo = some a → a.block ≠ b
  p : ∀ l ∈ y.ls, 0 < l.l.pages.length → ∀ a, l.po = some a → a.block ≠ b
  v : 0 < y.live.length → ∀ a, y.vo = some a → a.block ≠ b
theorem away_old {w : World} {b : Nat} {y : Hx} (h : y.At w) (hb : w.heap.size ≤ b) : Away b y := by
  refine ⟨fun z hz h0 a ha => ?_, fun z hz h0 a ha => ?_, fun h0 a ha => ?_, fun h0 a ha => ?_, fun l hl h0 a ha => ?_, fun h0 a ha => ?_⟩
  · have := blks_lt (h.zones.at_ z hz).free h0 a ha; omega
  · have := nums_lt (h.zones.at_ z hz).types h0 a ha; omega
  · have := nums_lt h.mins h0 a ha; omega
  · obtain ⟨c, off, e, hc, _⟩ := h.lists.cells 0 (by simpa using h0)
    rw [e] at ha
    cases ha
    have := World.block_lt_of_cell? w _ hc
    dsimp only at this ⊢
    omega
  · have := nums_lt (h.lists.at_ l hl) h0 a ha; omega
  · have := blks_lt h.live h0 a ha; omega
/-- A heap that can be read, and whose row of zones, in block gz, may be written. -/
structure HZ (w : World) (B gz : Nat) (y : Hx) : Prop where
  oz : w.ownsRow B 44 4 (.slice y.zo y.zn y.zc) y.zn (c4 (y.zs.map Zc.q))
  ez : y.zo = some ⟨gz, 0, none⟩
  at_ : y.At w
  aw : Away gz y
  gB : B ≤ gz
theorem HZ.lt {w : World} {B gz : Nat} {y : Hx} (h : HZ w B gz y) (hn : 0 < y.zn) : gz < w.heap.size := by
  have := h.oz
  rw [h.ez] at this
  obtain ⟨g, e, _, hl⟩ := owns_head this hn
  cases e
  exact hl
theorem HZ.below {w w' : World} {B gz : Nat} {y : Hx} (h : HZ w B gz y) (hb : Below w.heap.size w w') : HZ w' B gz y :=
  ⟨owns_below h.oz hb (Nat.le_refl _), h.ez, h.at_.below hb, h.aw, h.gB⟩
/-- The same heap with another zone. -/
def Kit.Hx.setZ (y : Hx) (i : Nat) (z : Zc) : Hx := { y with zs := y.zs.set i z }
theorem Away.setZ {b i : Nat} {y : Hx} {z : Zc} (h : Away b y) (h1 : ∀ a, z.fo = some a → a.block ≠ b) (h2 : ∀ a, z.to_ = some a → a.block ≠ b) : Away b (y.setZ i z) := by
  have hmem : ∀ c ∈ y.zs.set i z, c ∈ y.zs ∨ c = z := fun c hc => List.mem_or_eq_of_mem_set hc
  refine ⟨fun c hc h0 => ?_, fun c hc h0 => ?_, h.m, h.l, h.p, h.v⟩
  · rcases hmem c hc with hc | rfl
    · exact h.f c hc h0
    · exact h1
  · rcases hmem c hc with hc | rfl
    · exact h.t c hc h0
    · exact h2
theorem HZ.set {w w' : World} {B gz : Nat} {y : Hx} (h : HZ w B gz y) {i : Nat} {z : Zc} (hz : z.At w) (h1 : ∀ a, z.fo = some a → a.block ≠ gz) (h2 : ∀ a, z.to_ = some a → a.block ≠ gz)
    (hb : But gz w w') (ho : w'.ownsRow B 44 4 (.slice y.zo y.zn y.zc) y.zn (c4 ((y.zs.map Zc.q).set i z.q))) : HZ w' B gz (y.setZ i z) := by
  have hm : (y.zs.set i z).map Zc.q = (y.zs.map Zc.q).set i z.q := by rw [List.map_set]
  have hmem : ∀ c ∈ y.zs.set i z, c ∈ y.zs ∨ c = z := fun c hc => List.mem_or_eq_of_mem_set hc
  refine ⟨by show w'.ownsRow B 44 4 _ _ (c4 ((y.zs.set i z).map Zc.q)); rw [hm]; exact ho, h.ez, ⟨⟨?_, h.at_.zones.reach, ?_, ?_⟩, nums_but h.at_.mins hb h.aw.m, ⟨h.at_.lists.len, h.at_.lists.reach, ?_, fun l hl => nums_but (h.at_.lists.at_ l hl) hb (h.aw.p l hl)⟩, blks_but h.at_.live hb h.aw.v⟩, h.aw.setZ h1 h2, h.gB⟩
  · show (y.zs.set i z).length = _; rw [List.length_set]; exact h.at_.zones.len
  · show C4At w' y.zo ((y.zs.set i z).map Zc.q); rw [hm]; exact c4_of_owns ho
  · intro c hc
    rcases hmem c hc with hc | rfl
    · exact ⟨blks_but (h.at_.zones.at_ c hc).free hb (h.aw.f c hc), nums_but (h.at_.zones.at_ c hc).types hb (h.aw.t c hc)⟩
    · exact hb.zn hz h1 h2
  · show C4At w' y.lo (y.ls.map Lc.q)
    by_cases h0 : 0 < y.ls.length
    · exact h.at_.lists.cells.but hb (h.aw.l h0)
    · intro i hi; rw [List.length_map] at hi; omega

/-- A block goes back to its zone: plain. -/
def backH (H : Hp) (p o : Int) : Hp := { H with zones := H.zones.set (zIdx H p) (backZ (H.zones.getD (zIdx H p) ⟨0, 0, [], []⟩) p o) }
/-- .. and may: its zone may be, and has none of its pages. -/
structure CanBack (H : Hp) (p o : Int) : Prop where
  n : H.zones.length = 2
  m : ZMay (H.zones.getD (zIdx H p) ⟨0, 0, [], []⟩)
  i : blkIn (H.zones.getD (zIdx H p) ⟨0, 0, [], []⟩).f (H.zones.getD (zIdx H p) ⟨0, 0, [], []⟩).t p o
  v : ¬ ovlP (H.zones.getD (zIdx H p) ⟨0, 0, [], []⟩).free p o

theorem hp_zone (y : Hx) (i : Nat) : y.hp.zones.getD i ⟨0, 0, [], []⟩ = (y.zs.getD i .zero).z := zoneOf_hp y i
theorem setZ_hp {y : Hx} {p o : Int} {z : Zc} (h : z.z = backZ (y.zs.getD (zIdx y.hp p) .zero).z p o) : (y.setZ (zIdx y.hp p) z).hp = backH y.hp p o := by
  unfold backH Kit.Hx.setZ
  rw [hp_zone, ← h]
  show Hp.mk ((y.zs.set _ z).map (·.z)) _ _ _ _ = _
  rw [List.map_set]
  rfl
theorem but_start (g : Nat) {w w' : World} (h : ({ w with drawn := w.drawn + 1 } : World) = w') : But g w w' := by
  subst h
  exact But.of_below ((Below.refl w.heap.size w).drew)

theorem at_but {w w' : World} {b : Nat} {y : Hx} (h : y.At w) (hb : But b w w') (hbz : 0 < y.zs.length → ∀ a, y.zo = some a → a.block ≠ b) (ha : Away b y) : y.At w' := by
  refine ⟨⟨h.zones.len, h.zones.reach, ?_, fun z hz => ⟨blks_but (h.zones.at_ z hz).free hb (ha.f z hz), nums_but (h.zones.at_ z hz).types hb (ha.t z hz)⟩⟩, nums_but h.mins hb ha.m, ⟨h.lists.len, h.lists.reach, ?_, fun l hl => nums_but (h.lists.at_ l hl) hb (ha.p l hl)⟩, blks_but h.live hb ha.v⟩
  · by_cases h0 : 0 < y.zs.length
    · exact h.zones.cells.but hb (hbz h0)
    · intro i hi; rw [List.length_map] at hi; omega
  · by_cases h0 : 0 < y.ls.length
    · exact h.lists.cells.but hb (ha.l h0)
    · intro i hi; rw [List.length_map] at hi; omega
theorem HZ.but {w w' : World} {B gz b : Nat} {y : Hx} (h : HZ w B gz y) (hb : But b w w') (hne : b ≠ gz) (ha : Away b y) : HZ w' B gz y := by
  refine ⟨?_, h.ez, at_but h.at_ hb (fun _ a e => by rw [h.ez] at e; cases e; exact Ne.symm hne) ha, h.aw, h.gB⟩
  have ho := h.oz
  rw [h.ez] at ho ⊢
  exact own_but ho hb (Ne.symm hne)

end Go.Proofs.Ytbjlbmofdnkmiaa

/-
  OWN TEXT. Contracts of slices.IndexFunc and slices.ContainsFunc over blocks, whatever the closure.
-/
namespace Go.Proofs.Ytbjlbmofdnkmiaa
open Go Go.RowKit Go.Proofs.Ytbjlbmofdnkmiaa.Kit

/-- What the closure does at the blocks of a list, whatever new memory there is. -/
def HoldsB (F : Nat) (caps : Array Value) (l : List Bk) (g : Bk → Bool) (w : World) : Prop :=
  ∀ (i : Nat), i < l.length → ∀ W : World, Below w.heap.size w W → Calls Try.prog F (#[Value.agg #[.int .i64 (l.getD i .zero).a, .int .i64 (l.getD i .zero).o, .int .i64 (l.getD i .zero).t]] ++ caps) W fun e W' => e = .returned (.bool (g (l.getD i .zero))) ∧ Below W.heap.size W W'

/-- The first place at which it holds is returned, or -1. -/
def FoundAt (e : Ending) (l : List Bk) (g : Bk → Bool) : Prop :=
  (∃ k : Nat, k < l.length ∧ e = .returned (.int .i64 (k : Int)) ∧ g (l.getD k .zero) = true ∧ ∀ j, j < k → g (l.getD j .zero) = false) ∨ (e = .returned (.int .i64 (-1)) ∧ ∀ j, j < l.length → g (l.getD j .zero) = false)

set_option maxHeartbeats 1000000 in
theorem bIndex_any (w : World) (F : Nat) (caps : Array Value) (ao : Option Addr) (n cap : Nat) (l : List Bk) (g : Bk → Bool) (h : Blks w ao n l)
    (hcall : ∀ args W, (callFunc F args).run Try.prog W = .ok (.enter F args) W) (hc : HoldsB F caps l g w) :
    Calls Try.prog 46 #[.slice ao n cap, .func (.func F) #[] caps] w fun e w' => FoundAt e l g ∧ Below w.heap.size w w' := by
  have hlen := h.len
  have hrch := h.reach
  go_enter Try.func46, Try.ntmps46
  go_wp2
  go_loopw [8] (fun i wr => ∃ k : Nat, k ≤ n ∧ i = .int .i64 k ∧ Hid (∀ j, j < k → g (l.getD j .zero) = false) ∧ Below w.heap.size w wr) (fun i _ => n - (intOf i).toNat)
  case atStart => exact ⟨0, Nat.zero_le _, rfl, (fun j hj => absurd hj (Nat.not_lt_zero j)), Below.refl _ _⟩
  case round =>
    obtain ⟨k, hk, rfl, hN, hb⟩ := hrel
    by_cases hlt : k < n
    · obtain ⟨b, o, rfl, c0, c1, c2⟩ := h.at_ k (by omega)
      have hc1 := hc k (by omega) wr hb
      obtain ⟨r, hr⟩ : ∃ r, l.getD k .zero = r := ⟨_, rfl⟩
      have HR : Hid (l.getD k .zero = r) := hr
      rw [hr] at c0 c1 c2 hc1
      clear hr
      obtain ⟨x, y, u⟩ := r
      dsimp only at c0 c1 c2 hc1
      have d0 := keep c0 hb
      have d1 := keep c1 hb
      have d2 := keep c2 hb
      clear c0 c1 c2
      go_wp2_with fail
      refine hc1.mono ?_
      rintro e w1 ⟨rfl, hb1⟩
      have hB := hb.trans (hb1.mono hb.size)
      clear hc1 d0 d1 d2 hc
      cases hg : g ⟨x, y, u⟩ with
      | true =>
        have HT : Hid (g (l.getD k .zero) = true) := by show _ = _; rw [HR.out]; exact hg
        clear hg
        go_wp2
        go_ret
        exact ⟨.inl ⟨k, by omega, rfl, HT.out, hN.out⟩, hB⟩
      | false =>
        have HF : Hid (∀ j, j < k + 1 → g (l.getD j .zero) = false) := fun j hj => by
          by_cases e : j = k
          · rw [e, HR.out]; exact hg
          · exact hN.out j (by omega)
        clear hg hN
        go_wp2
        go_roundw
        case rel => exact ⟨k + 1, by omega, by go_num, HF, hB⟩
        case measure => simp [intOf]; omega
    · have HF : Hid (∀ j, j < l.length → g (l.getD j .zero) = false) := fun j hj => hN.out j (by omega)
      clear hN hc
      go_wp2
      go_ret
      exact ⟨.inr ⟨rfl, HF.out⟩, hb⟩

theorem any_of_found {l : List Bk} {g : Bk → Bool} {k : Nat} (hk : k < l.length) (h : g (l.getD k .zero) = true) : l.any g = true := by
  rw [List.any_eq_true]
  exact ⟨l[k], List.getElem_mem _, by rw [List.getD_eq_getElem?_getD, List.getElem?_eq_getElem hk] at h; exact h⟩
theorem any_of_none {l : List Bk} {g : Bk → Bool} (h : ∀ j, j < l.length → g (l.getD j .zero) = false) : l.any g = false := by
  rw [List.any_eq_false]
  intro x hx
  obtain ⟨i, hi, rfl⟩ := List.getElem_of_mem hx
  have := h i hi
  rw [List.getD_eq_getElem?_getD, List.getElem?_eq_getElem hi] at this
  simp only [Option.getD_some] at this
  simp [this]

end Go.Proofs.Ytbjlbmofdnkmiaa

/-
  OWN TEXT. Contract of slices.Delete at one block.
-/
namespace Go.Proofs.Ytbjlbmofdnkmiaa
open Go Go.RowKit Go.Proofs.Ytbjlbmofdnkmiaa.Kit

theorem zero_block : ∀ w, (zeroValue 63).run Try.prog w = .ok (.agg #[.int .i64 0, .int .i64 0, .int .i64 0]) w := fun w => by
  have h := info_block
  cases hq : Try.prog.info? 63 with
  | none => simp [hq] at h
  | some i =>
    simp [hq] at h
    simp [zeroValue, typeInfo, hq, h.1]

theorem zero_one : ∀ v ∈ (Value.agg #[.int .i64 0, .int .i64 0, .int .i64 0]).cells, v.oneCell' = true := by
  intro v hv
  have h : v ∈ (#[.int .i64 0, .int .i64 0, .int .i64 0] : Array Value) := hv
  simp at h
  subst h
  rfl

theorem bvals_take (l : List Bk) (i : Nat) : (bvals l).take (i * 3) = bvals (l.take i) := by
  induction l generalizing i with
  | nil => simp [bvals]
  | cons b l ih =>
    cases i with
    | zero => simp [bvals]
    | succ i => rw [Nat.succ_mul]; simp only [bvals, List.take_succ_cons, ih]
theorem bvals_drop (l : List Bk) (i : Nat) : (bvals l).drop (i * 3) = bvals (l.drop i) := by
  induction l generalizing i with
  | nil => simp [bvals]
  | cons b l ih =>
    cases i with
    | zero => simp [bvals]
    | succ i => rw [Nat.succ_mul]; simp only [bvals, List.drop_succ_cons, ih]
theorem take_cut {L X : List Value} {n m : Nat} (h : L.take n = X) (hm : m ≤ n) : L.take m = X.take m := by rw [← h, List.take_take, Nat.min_eq_left hm]

set_option maxHeartbeats 2000000 in
theorem bDel_any (w : World) (base g N cap i : Nat) (l : List Bk) (hi : i ≤ N) (hn : N ≤ 300) (own : w.ownsRow base 63 3 (.slice (some ⟨g, 0, none⟩) (N + 1) cap) (N + 1) (bvals l)) :
    Calls Try.prog 48 #[.slice (some ⟨g, 0, none⟩) (N + 1) cap, .int .i64 i, .int .i64 ((i : Int) + 1)] w fun e w' => e = .returned (.slice (some ⟨g, 0, none⟩) N cap) ∧
      w'.ownsRow base 63 3 (.slice (some ⟨g, 0, none⟩) N cap) N (bvals (l.eraseIdx i)) ∧ But g w w' := by
  obtain ⟨i1, hj, hy0, hy1, hy2⟩ := info_parts info_block
  have hll := bowns_len own
  obtain ⟨hbg, hnc, cur, R, hcur⟩ := Row.of own
  have hm := R.m
  unfold maxLen at hm
  have own1 : w.drew.ownsRow base 63 3 (.slice (some ⟨g, 0, none⟩) i cap) i (bvals (l.take i)) :=
    (R.below (Below.refl _ _).drew).owns hbg (by omega) (by rw [take_cut hcur (by omega), bvals_take])
  obtain ⟨news, hnews⟩ : ∃ news, news = bvals (l.drop (i + 1)) := ⟨_, rfl⟩
  have hnl : news.length = (N - i) * 3 := by rw [hnews, length_bvals, List.length_drop, hll]; omega
  have hn1 : ∀ u ∈ news, u.oneCell' = true := by rw [hnews]; exact bvals_oneCell _
  have hcell : ∀ j u, news[j]? = some u → w.drew.cell? ((⟨g, (i + 1) * 3, none⟩ : Addr).add j) = some u := by
    intro j u hu
    rw [add_at, (R.below (Below.refl _ _).drew).cell]
    rw [hnews, ← bvals_drop, List.getElem?_drop] at hu
    rw [← hcur, List.getElem?_take] at hu
    split at hu
    · exact hu
    · cases hu
  have HE : Hid (bvals (l.take i) ++ news = bvals (l.eraseIdx i)) := by
    show _ = _
    rw [hnews, ← bvals_append, List.eraseIdx_eq_take_drop_succ]
  have hsum : i + (N - i) = N := by omega
  have Hcell : Hid _ := hcell
  have Hnl : Hid _ := hnl
  clear hnews hcur own hcell hnl
  have h1 : (i : Int) + 1 ≤ N + 1 := by omega
  have h2 : i ≤ N + 1 := by omega
  have h3 : ((i : Int) == (i : Int) + 1) = false := by simp; omega
  have h4 : ((i : Int) + 1).toNat = i + 1 := by omega
  have h5 : i ≤ cap := by omega
  have h6 : ¬ (cap = N) := by omega
  have h7 : N + 1 - N = 1 := by omega
  have h8 : (i : Int) ≤ (cap : Int) := by omega
  have h9 : (i : Int) + 1 ≤ (cap : Int) := by omega
  have h10 : (i : Int) ≤ (N : Int) + 1 := by omega
  have h11 : (N : Int) ≤ (N : Int) + 1 := by omega
  have h12 : (N : Int) + 1 ≤ (cap : Int) := by omega
  have h13 : ((N : Int) + 1).toNat = N + 1 := by omega
  have h14 : ¬ (cap = i) := by omega
  have h15 : (0 : Int) ≤ (i : Int) + 1 := by omega
  by_cases hc' : cap = i + 1
  · have hc : (cap = i + 1) = True := eq_true hc'
    have HC : Hid (cap = i + 1) := hc'
    clear hc'
    go_enter Try.func48, Try.ntmps48
    go_wp2
    go_region_law (refine step_append_fits rfl (.tmp 22) (.tmp 25) 26 rfl 63 i1 3 Try.underlying26 hj hy1 base g i cap (bvals (l.take i)) (by simp [Act.eval, Act.put]) own1 (some ⟨g, 0, none⟩) (N - i) (cap - (i + 1)) news (by simp [Act.eval, Act.put]) Hnl.out ⟨_, rfl, fun j u hu => by have := Hnl.out; have hc' := HC.out; have h0 : news = [] := List.eq_nil_of_length_eq_zero (by omega); rw [h0] at hu; cases hu⟩ hn1 N hsum (by omega) ?_; intro w1 ho1 hb1)
    all_goals
      obtain ⟨_, _, cur1, R1, hcur1⟩ := Row.of ho1
      have hl1 := R1.len
      clear own1 Hcell Hnl hn1 ho1 R
      go_wp2_with (refine wpList_clear_k rfl (.tmp 31) 26 rfl 63 _ 3 Try.underlying26 zero_block rfl zero_one _ _ _ rfl g (N * 3) cur1 R1.h (fun _ => rfl) (by omega) ?_; intro w2 cur2 hg2 hb2)
      go_ret
      obtain ⟨g1, g2, g3⟩ := hg2.out
      have R2 : Row w2 63 3 g cap cur2 := ⟨g1, by rw [g2]; exact hl1, R1.m⟩
      exact ⟨rfl, R2.owns hbg (by omega) (by rw [g3, hcur1, HE.out]), ((But.of_below (Below.refl _ _).drew).trans hb1).trans hb2⟩
  · go_enter Try.func48, Try.ntmps48
    go_wp2
    go_region_law (refine step_append_fits rfl (.tmp 22) (.tmp 25) 26 rfl 63 i1 3 Try.underlying26 hj hy1 base g i cap (bvals (l.take i)) (by simp [Act.eval, Act.put]) own1 (some ⟨g, (i + 1) * 3, none⟩) (N - i) (cap - (i + 1)) news (by simp [Act.eval, Act.put]) Hnl.out ⟨_, rfl, Hcell.out⟩ hn1 N hsum (by omega) ?_; intro w1 ho1 hb1)
    all_goals
      obtain ⟨_, _, cur1, R1, hcur1⟩ := Row.of ho1
      have hl1 := R1.len
      clear own1 Hcell Hnl hn1 ho1 R
      go_wp2_with (refine wpList_clear_k rfl (.tmp 31) 26 rfl 63 _ 3 Try.underlying26 zero_block rfl zero_one _ _ _ rfl g (N * 3) cur1 R1.h (fun _ => rfl) (by omega) ?_; intro w2 cur2 hg2 hb2)
      go_ret
      obtain ⟨g1, g2, g3⟩ := hg2.out
      have R2 : Row w2 63 3 g cap cur2 := ⟨g1, by rw [g2]; exact hl1, R1.m⟩
      exact ⟨rfl, R2.owns hbg (by omega) (by rw [g3, hcur1, HE.out]), ((But.of_below (Below.refl _ _).drew).trans hb1).trans hb2⟩

end Go.Proofs.Ytbjlbmofdnkmiaa
