/-
  OWN TEXTS, bundled: HcApart, HcOwn, IIdx, HcList, HcLists.
-/
import Derived.Test.YtbjlbmofdnkmiaaPagesFreesPart7
import Derived.Test.YtbjlbmofdnkmiaaPagesFreesPart2
import Derived.Deep.RegionHeld3

/-
  OWN TEXT. Contracts of the code: pages.areApart.
-/
namespace Go.Proofs.Ytbjlbmofdnkmiaa
open Go Go.RowKit Go.Proofs.Ytbjlbmofdnkmiaa.Kit

theorem zero_pmarks (w : World) : (zeroValue 92).run Try.prog w = .ok (.agg (mk fun _ => false)) w := by kernel_rfl

/-- Free blocks of zones, one after the other. -/
def freeA (l : List Zc) : List Bk := l.flatMap fun z => z.z.free
/-- Pages of lists, one after the other. -/
def pageA (l : List Lc) : List Bk := l.flatMap fun x => x.l.pages.map pgB
theorem placed_eq (x : Hx) : placed x.hp = freeA x.zs ++ (pageA x.ls ++ x.live) := by
  unfold placed freeA pageA Hx.hp
  simp [List.flatMap_map]
theorem flatMap_take {α β : Type} (l : List α) (f : α → List β) (k : Nat) (h : k < l.length) (d : α) : (l.take (k + 1)).flatMap f = (l.take k).flatMap f ++ f (l.getD k d) := by
  rw [List.take_succ_eq_append_getElem h, List.flatMap_append, List.getD_eq_getElem?_getD, List.getElem?_eq_getElem h]
  simp
theorem flatMap_split {α β : Type} (l : List α) (f : α → List β) (k : Nat) : l.flatMap f = (l.take k).flatMap f ++ (l.drop k).flatMap f := by
  rw [← List.flatMap_append, List.take_append_drop]
theorem apt_mid {P l R : List Bk} (h : Apt [] (P ++ (l ++ R))) : Apt P l := by
  have := ((apt_append [] P (l ++ R)).1 h).2
  exact ((apt_append _ l R).1 this).1
theorem map_take_succ (l : List Int) (k : Nat) (h : k < l.length) : (l.take (k + 1)).map pgB = (l.take k).map pgB ++ [pgB (l.getD k 0)] := by
  rw [List.take_succ_eq_append_getElem h, List.map_append, List.getD_eq_getElem?_getD, List.getElem?_eq_getElem h]
  simp

theorem Blks.lt {w : World} {ao : Option Addr} {n : Nat} {l : List Bk} (h : Blks w ao n l) (hn : 0 < n) : ∀ a, ao = some a → a.block < w.heap.size := by
  intro a ha
  obtain ⟨b, off, e, c, _, _⟩ := h.at_ 0 (by have := h.len; omega)
  rw [ha] at e
  cases e
  have := World.block_lt_of_cell? w _ c
  exact this

/-- What is there in the midst of areApart. -/
structure ApI (w W0 : World) (x : Hx) (P : List Bk) (wr : World) : Prop where
  b : Below w.heap.size w wr
  but : But (w.heap.size + 1) W0 wr
  m : MarksAt wr (w.heap.size + 1) 92 (cov P)
  box : HBox wr w.heap.size (.slice x.zo x.zn x.zc) (.slice x.mo x.mn x.mc) (.int .i64 x.cpus) (.slice x.lo x.ln x.lc) (.slice x.vo x.vn x.vc)
theorem ApI.below {w W0 : World} {x : Hx} {P : List Bk} {wr wr' : World} (h : ApI w W0 x P wr) (hb : Below wr.heap.size wr wr') : ApI w W0 x P wr' :=
  ⟨h.b.trans (hb.mono h.b.size), h.but.trans (But.of_below hb), h.m.below hb, h.box.below hb⟩
theorem ApI.step {w W0 : World} {x : Hx} {P Q : List Bk} {wr wr' : World} (h : ApI w W0 x P wr) (hb : But (w.heap.size + 1) wr wr') (hm : MarksAt wr' (w.heap.size + 1) 92 (cov Q)) : ApI w W0 x Q wr' :=
  ⟨h.b.trans (hb.below (by omega) h.b.size), h.but.trans hb, hm, h.box.but hb (by omega)⟩

set_option maxRecDepth 4000 in
set_option maxHeartbeats 4000000 in
theorem pApart_any (w : World) (x : Hx) (hx : x.At w) (hz : ∀ z ∈ x.zs, ∀ i, i < z.z.free.length → InP (z.z.free.getD i .zero)) (hl : ∀ l ∈ x.ls, ∀ i, i < l.l.pages.length → 0 ≤ l.l.pages.getD i 0 ∧ l.l.pages.getD i 0 < 256) (hv : ∀ i, i < x.live.length → InP (x.live.getD i .zero)) :
    Calls Try.prog 35 #[.agg #[.slice x.zo x.zn x.zc, .slice x.mo x.mn x.mc, .int .i64 x.cpus, .slice x.lo x.ln x.lc, .slice x.vo x.vn x.vc]] w fun e w' => RetIff e (Apt [] (placed x.hp)) ∧ Below w.heap.size w w' := by
  have HPl := placed_eq x
  obtain ⟨PL, hPL⟩ : ∃ PL, placed x.hp = PL := ⟨_, rfl⟩
  rw [hPL] at HPl ⊢
  have HP : Hid (PL = freeA x.zs ++ (pageA x.ls ++ x.live)) := HPl
  clear HPl hPL
  have hz' : Hid _ := hz
  have hl' : Hid _ := hl
  have hv' : Hid _ := hv
  have hb1 := below_box w (.cells #[.slice x.zo x.zn x.zc, .slice x.mo x.mn x.mc, .int .i64 x.cpus, .slice x.lo x.ln x.lc, .slice x.vo x.vn x.vc] 28)
  have A1 := hbox_new w (.slice x.zo x.zn x.zc) (.slice x.mo x.mn x.mc) (.int .i64 x.cpus) (.slice x.lo x.ln x.lc) (.slice x.vo x.vn x.vc) 28
  have hs1 : (w.alloc (.cells #[.slice x.zo x.zn x.zc, .slice x.mo x.mn x.mc, .int .i64 x.cpus, .slice x.lo x.ln x.lc, .slice x.vo x.vn x.vc] 28)).heap.size = w.heap.size + 1 := by simp
  have hzm := zero_pmarks
  obtain ⟨Z, hZ⟩ : ∃ Z, mk (fun _ => false) = Z := ⟨_, rfl⟩
  rw [hZ] at hzm
  obtain ⟨W0, hW0⟩ : ∃ W0, (w.alloc (.cells #[.slice x.zo x.zn x.zc, .slice x.mo x.mn x.mc, .int .i64 x.cpus, .slice x.lo x.ln x.lc, .slice x.vo x.vn x.vc] 28)).alloc (.cells Z 92) = W0 := ⟨_, rfl⟩
  have hb2 : Below w.heap.size w W0 := by rw [← hW0]; exact hb1.trans ((below_box _ _).mono hb1.size)
  have I0 : ApI w W0 x [] W0 := by
    refine ⟨hb2, But.refl _ _, ?_, by rw [← hW0]; exact A1.below (below_box _ _)⟩
    show W0.heap[w.heap.size + 1]? = some (Obj.cells (mk (cov [])) _ _)
    have e : mk (cov []) = Z := by rw [← hZ]; exact mk_ext fun p _ => rfl
    rw [e, ← hW0]
    have := heap_alloc_new (w.alloc (.cells #[.slice x.zo x.zn x.zc, .slice x.mo x.mn x.mc, .int .i64 x.cpus, .slice x.lo x.ln x.lc, .slice x.vo x.vn x.vc] 28)) (.cells Z 92)
    rw [hs1] at this
    exact this
  have HW0 : Hid _ := hW0
  have a0 := A1.c0
  have i0 := I0.box.c0
  obtain ⟨zo, hzo⟩ : ∃ zo, x.zo = zo := ⟨_, rfl⟩
  obtain ⟨lo, hlo⟩ : ∃ lo, x.lo = lo := ⟨_, rfl⟩
  have hZs := hx.zones
  have hLs := hx.lists
  rw [hzo] at hZs i0
  rw [hlo] at hLs
  have HZO : Hid (x.zo = zo) := hzo
  have HLO : Hid (x.lo = lo) := hlo
  have rz := hZs.reach
  have rl := hLs.reach
  have HNo : Hid (∀ e, (e = Ending.returned (.bool false)) → ¬ Apt [] PL → RetIff e (Apt [] PL)) := fun e he hn => ⟨false, he, by simp [hn]⟩
  clear hz hl hv hb1 A1 hs1 hW0 a0
  rw [hzo, hlo]
  rw [hzo, hlo] at HW0
  clear hzo hlo
  go_enter Try.func35, Try.ntmps35
  go_wp2_with (rw [HW0.out])
  clear HW0 hzm hZ i0
  go_loopw [13] (fun iv wr => ∃ k : Nat, k ≤ x.zn ∧ iv = .int .i64 k ∧ Hid (Apt [] (freeA (x.zs.take k))) ∧ ApI w W0 x (freeA (x.zs.take k)) wr) (fun iv _ => x.zn - (intOf iv).toNat)
  case atStart => exact ⟨0, Nat.zero_le _, rfl, (by show Apt [] _; exact apt_nil []), I0⟩
  case round =>
    obtain ⟨k, hk, rfl, hA, I⟩ := hrel
    clear I0
    by_cases hlt : k < x.zn
    · obtain ⟨g, off, z, fo, fn, fc, to_, tn, tc, ha, c0, c1, c2, c3, hat, hX⟩ := (hZs.below I.b).at k hlt
      subst ha
      have hbb := below_box wr (.cells #[.int .i64 z.f, .int .i64 z.t, .slice fo fn fc, .slice to_ tn tc] 44)
      have ZB := zbox_new wr (.int .i64 z.f) (.int .i64 z.t) (.slice fo fn fc) (.slice to_ tn tc) 44
      have hatw : Blks w fo fn z.free := by
        have := hZs.at_ _ (getD_mem (d := Zc.zero) (show k < x.zs.length by have := hZs.len; omega))
        rw [hX.out] at this
        exact ZnAt.free this
      have Ib := I.below hbb
      have HAd := pAddBlocks_any _ (w.heap.size + 1) (freeA (x.zs.take k)) z.free fo fn fc Ib.m (hatw.below Ib.b) (fun i hi => by
          have := hz'.out _ (getD_mem (d := Zc.zero) (show k < x.zs.length by have := hZs.len; omega)) i (by rw [hX.out]; exact hi)
          rw [hX.out] at this
          exact this) (fun hn a ha => by have := Blks.lt hatw hn a ha; omega)
      obtain ⟨Wb, hWb⟩ : ∃ Wb, wr.alloc (.cells #[.int .i64 z.f, .int .i64 z.t, .slice fo fn fc, .slice to_ tn tc] 44) = Wb := ⟨_, rfl⟩
      rw [hWb] at hbb ZB Ib HAd
      have HWb : Hid _ := hWb
      have y2 := ZB.c2
      clear hWb
      go_wp2_with (rw [HWb.out])
      go_at_call 68
      refine HAd.mono ?_
      rintro e W2 ⟨hAd, hb2'⟩
      have e1 : freeA (x.zs.take (k + 1)) = freeA (x.zs.take k) ++ z.free := by
        unfold freeA
        rw [flatMap_take x.zs _ k (by have := hZs.len; omega) .zero, hX.out]
      rcases hAd with ⟨rfl, hA2, hM2⟩ | ⟨rfl, hA2⟩
      · have I2 := Ib.step hb2' hM2
        rw [← e1] at I2
        have HA2 : Hid (Apt [] (freeA (x.zs.take (k + 1)))) := by show Apt [] _; rw [e1, apt_append]; exact ⟨hA.out, hA2⟩
        clear HAd hA hA2 hM2 I Ib hbb ZB c0 c1 c2 c3 hat y2 HWb e1
        go_wp2
        go_roundw
        case rel => exact ⟨k + 1, by omega, by go_num, HA2, I2⟩
        case measure => simp [intOf]; omega
      · have HF : Hid (¬ Apt [] PL) := fun h => by
          apply hA2
          rw [HP.out] at h
          have e2 : freeA x.zs = freeA (x.zs.take k) ++ (z.free ++ freeA (x.zs.drop (k + 1))) := by
            rw [← List.append_assoc, ← e1]
            exact flatMap_split _ _ _
          rw [e2, List.append_assoc, List.append_assoc] at h
          exact apt_mid h
        have hBB := Ib.b.trans (hb2'.below (by omega) Ib.b.size)
        clear HAd hA hA2 I Ib hbb ZB c0 c1 c2 c3 hat y2 HWb e1
        go_wp2
        go_ret
        exact ⟨HNo.out _ rfl HF.out, hBB⟩
    · have e0 : x.zs.take k = x.zs := List.take_of_length_le (by have := hZs.len; omega)
      rw [e0] at hA I
      have a3 := I.box.c3
      rw [HLO.out] at a3
      go_wp2_with fail
      clear a3 hlt hk e0
      go_loopw [25] (fun iv wr => ∃ k : Nat, k ≤ x.ln ∧ iv = .int .i64 k ∧ Hid (Apt [] (freeA x.zs ++ pageA (x.ls.take k))) ∧ ApI w W0 x (freeA x.zs ++ pageA (x.ls.take k)) wr) (fun iv _ => x.ln - (intOf iv).toNat)
      case atStart => exact ⟨0, Nat.zero_le _, rfl, (by show Apt [] _; simpa [pageA] using hA.out), by simpa [pageA] using I⟩
      case round =>
        clear hA I
        obtain ⟨k, hk, rfl, hA, I⟩ := hrel
        by_cases hlt : k < x.ln
        · obtain ⟨g, off, c, z, t, pages, po, pn, pc, ha, c0, c1, c2, c3, hat, hX⟩ := (hLs.below I.b).at k hlt
          subst ha
          have hbb := below_box wr (.cells #[.int .i64 c, .int .i64 z, .int .i64 t, .slice po pn pc] 57)
          have ZB := zbox_new wr (.int .i64 c) (.int .i64 z) (.int .i64 t) (.slice po pn pc) 57
          have hatw : Nums w po pn pages := by
            have := hLs.at_ _ (getD_mem (d := Lc.zero) (show k < x.ls.length by have := hLs.len; omega))
            rw [hX.out] at this
            exact this
          have hpg : Hid (∀ i, i < pages.length → 0 ≤ pages.getD i 0 ∧ pages.getD i 0 < 256) := fun i hi => by
            have := hl'.out _ (getD_mem (d := Lc.zero) (show k < x.ls.length by have := hLs.len; omega)) i (by rw [hX.out]; exact hi)
            rw [hX.out] at this
            exact this
          have e1 : pageA (x.ls.take (k + 1)) = pageA (x.ls.take k) ++ pages.map pgB := by
            unfold pageA
            rw [flatMap_take x.ls _ k (by have := hLs.len; omega) .zero, hX.out]
          have Ib := I.below hbb
          obtain ⟨Wb, hWb⟩ : ∃ Wb, wr.alloc (.cells #[.int .i64 c, .int .i64 z, .int .i64 t, .slice po pn pc] 57) = Wb := ⟨_, rfl⟩
          rw [hWb] at hbb ZB Ib
          have HWb : Hid _ := hWb
          have y3 := ZB.c3
          have rp := hatw.reach
          have HE1 : Hid _ := e1
          clear hWb e1
          go_wp2_with (rw [HWb.out])
          clear HWb c0 c1 c2 c3 y3 ZB hbb hat I
          go_loopw [32] (fun iv wr => ∃ j : Nat, j ≤ pn ∧ iv = .int .i64 j ∧ Hid (Apt [] (freeA x.zs ++ pageA (x.ls.take k) ++ (pages.take j).map pgB)) ∧ ApI w W0 x (freeA x.zs ++ pageA (x.ls.take k) ++ (pages.take j).map pgB) wr) (fun iv _ => pn - (intOf iv).toNat)
          case atStart => exact ⟨0, Nat.zero_le _, rfl, (by show Apt [] _; simpa using hA.out), by simpa using Ib⟩
          case round =>
            clear hA Ib
            obtain ⟨j, hj, rfl, hA, I⟩ := hrel
            by_cases hjl : j < pn
            · obtain ⟨g2, off2, p, ha2, c0, hP⟩ := (hatw.below I.b).at_.at j (by have := hatw.len; omega)
              subst ha2
              have hpp := hpg.out j (by have := hatw.len; omega)
              rw [hP.out] at hpp
              obtain ⟨A, hAA⟩ : ∃ A : Nat, p = A := ⟨p.toNat, by omega⟩
              have HAd := pAdd_any wr (w.heap.size + 1) _ A 1 I.m (by omega)
              rw [hAA] at c0
              have HAA : Hid (p = A) := hAA
              clear hAA hpp
              go_wp2_with fail
              go_at_call 69
              refine HAd.mono ?_
              rintro e W2 ⟨hAd, hb2'⟩
              have e2 : (pages.take (j + 1)).map pgB = (pages.take j).map pgB ++ [pgB p] := by rw [map_take_succ pages j (by have := hatw.len; omega), hP.out]
              rcases hAd with ⟨rfl, hfree, hM2⟩ | ⟨rfl, q, q1, q2, q3⟩
              · have hM3 := marks_cov (c := pgB p) HAA.out.symm (by show ((1 : Nat) : Int) = pw 0; rfl) hM2
                have I2 := I.step hb2' hM3
                rw [List.append_assoc, ← e2] at I2
                have HA2 : Hid (Apt [] (freeA x.zs ++ pageA (x.ls.take k) ++ (pages.take (j + 1)).map pgB)) := by
                  show Apt [] _
                  rw [e2, ← List.append_assoc, apt_append, apt_one]
                  refine ⟨hA.out, ?_⟩
                  rw [List.nil_append, ← cov_ovl]
                  rintro ⟨q, q1, q2, q3⟩
                  have e3 : pw (pgB p).o = 1 := rfl
                  have e4 : (pgB p).a = p := rfl
                  rw [e3, e4] at q2
                  rw [e4] at q1
                  rw [HAA.out] at q1 q2
                  rw [hfree q q1 (by omega)] at q3
                  cases q3
                clear HAd hA hfree hM2 hM3 I c0 e2
                go_wp2
                go_roundw
                case rel => exact ⟨j + 1, by omega, by go_num, HA2, I2⟩
                case measure => simp [intOf]; omega
              · have HF : Hid (¬ Apt [] PL) := fun h => by
                  have e5 : pages.map pgB = (pages.take j).map pgB ++ ([pgB p] ++ (pages.drop (j + 1)).map pgB) := by
                    rw [← List.append_assoc, ← e2, ← List.map_append, List.take_append_drop]
                  have e6 : pageA x.ls = pageA (x.ls.take k) ++ (pages.map pgB ++ pageA (x.ls.drop (k + 1))) := by
                    rw [← List.append_assoc, ← HE1.out]
                    exact flatMap_split _ _ _
                  rw [HP.out, e6, e5] at h
                  have e7 : freeA x.zs ++ (pageA (x.ls.take k) ++ ((pages.take j).map pgB ++ ([pgB p] ++ (pages.drop (j + 1)).map pgB) ++ pageA (x.ls.drop (k + 1))) ++ x.live) = (freeA x.zs ++ pageA (x.ls.take k) ++ (pages.take j).map pgB) ++ ([pgB p] ++ ((pages.drop (j + 1)).map pgB ++ pageA (x.ls.drop (k + 1)) ++ x.live)) := by simp [List.append_assoc]
                  rw [e7] at h
                  have h1 := apt_mid h
                  rw [apt_one, ← cov_ovl] at h1
                  apply h1
                  have e3 : pw (pgB p).o = 1 := rfl
                  have e4 : (pgB p).a = p := rfl
                  rw [e3, e4, HAA.out]
                  exact ⟨q, q1, by omega, q3⟩
                have hBB := I.b.trans (hb2'.below (by omega) I.b.size)
                clear HAd hA I c0 e2 q3
                go_wp2
                go_ret
                exact ⟨HNo.out _ rfl HF.out, hBB⟩
            · have e0 : pages.take j = pages := List.take_of_length_le (by have := hatw.len; omega)
              rw [e0, List.append_assoc, ← HE1.out] at hA I
              clear e0
              go_wp2
              go_roundw
              case rel => exact ⟨k + 1, by omega, by go_num, hA, I⟩
              case measure => simp [intOf]; omega
        · have e0 : x.ls.take k = x.ls := List.take_of_length_le (by have := hLs.len; omega)
          rw [e0] at hA I
          have a4 := I.box.c4
          have HAd := pAddBlocks_any _ (w.heap.size + 1) (freeA x.zs ++ pageA x.ls) x.live x.vo x.vn x.vc I.m (hx.live.below I.b) hv'.out (fun hn a ha => by have := Blks.lt hx.live hn a ha; omega)
          go_wp2_with fail
          go_at_call 68
          refine HAd.mono ?_
          rintro e W2 ⟨hAd, hb2'⟩
          have hBB := I.b.trans (hb2'.below (by omega) I.b.size)
          have HI : Hid (Apt [] PL ↔ Apt (freeA x.zs ++ pageA x.ls) x.live) := by
            show _ ↔ _
            rw [HP.out, ← List.append_assoc, apt_append]
            simp only [List.nil_append]
            exact ⟨fun h => h.2, fun h => ⟨hA.out, h⟩⟩
          rcases hAd with ⟨rfl, hA2, hM2⟩ | ⟨rfl, hA2⟩
          · have HY := HI.out.2 hA2
            have HY' : Hid _ := HY
            clear HAd hA hA2 hM2 I a4 HY HI e0
            go_wp2
            go_ret
            exact ⟨⟨true, rfl, fun _ => HY'.out, fun _ => rfl⟩, hBB⟩
          · have HF : Hid (¬ Apt [] PL) := fun h => hA2 (HI.out.1 h)
            clear HAd hA hA2 I a4 HI e0
            go_wp2
            go_ret
            exact ⟨HNo.out _ rfl HF.out, hBB⟩

end Go.Proofs.Ytbjlbmofdnkmiaa

/-
  OWN TEXT. Contracts of the code: pages.byOwner.
-/
namespace Go.Proofs.Ytbjlbmofdnkmiaa
open Go Go.RowKit Go.Proofs.Ytbjlbmofdnkmiaa.Kit

/-- The order of two lists. -/
def ownC (a b : Ls) : Int := orL [cmpI a.c b.c, cmpI a.z b.z, cmpI a.t b.t]
theorem cmpI_cases (a b : Int) : (a < b ∧ cmpI a b = -1) ∨ (b < a ∧ cmpI a b = 1) ∨ (a = b ∧ cmpI a b = 0) := by
  rcases (show a < b ∨ b < a ∨ a = b by omega) with h | h | h
  · exact .inl ⟨h, by unfold cmpI; rw [if_pos h]⟩
  · exact .inr (.inl ⟨h, by unfold cmpI; rw [if_neg (by omega), if_pos h]⟩)
  · exact .inr (.inr ⟨h, by unfold cmpI; rw [if_neg (by omega), if_neg (by omega)]⟩)
theorem ownC_neg (a b : Ls) : ownC a b < 0 ↔ aheadL a b := by
  unfold ownC aheadL orL orL orL orL
  rcases cmpI_cases a.c b.c with ⟨h, e⟩ | ⟨h, e⟩ | ⟨h, e⟩ <;> rcases cmpI_cases a.z b.z with ⟨h1, e1⟩ | ⟨h1, e1⟩ | ⟨h1, e1⟩ <;> rcases cmpI_cases a.t b.t with ⟨h2, e2⟩ | ⟨h2, e2⟩ | ⟨h2, e2⟩ <;> rw [e, e1, e2] <;> simp <;> omega
theorem ownC_zero (a b : Ls) : ownC a b = 0 ↔ a.c = b.c ∧ a.z = b.z ∧ a.t = b.t := by
  unfold ownC orL orL orL orL
  rcases cmpI_cases a.c b.c with ⟨h, e⟩ | ⟨h, e⟩ | ⟨h, e⟩ <;> rcases cmpI_cases a.z b.z with ⟨h1, e1⟩ | ⟨h1, e1⟩ | ⟨h1, e1⟩ <;> rcases cmpI_cases a.t b.t with ⟨h2, e2⟩ | ⟨h2, e2⟩ | ⟨h2, e2⟩ <;> rw [e, e1, e2] <;> simp <;> omega
theorem ownC_range (a b : Ls) : -1 ≤ ownC a b ∧ ownC a b ≤ 1 := by
  unfold ownC orL orL orL orL
  rcases cmpI_cases a.c b.c with ⟨h, e⟩ | ⟨h, e⟩ | ⟨h, e⟩ <;> rcases cmpI_cases a.z b.z with ⟨h1, e1⟩ | ⟨h1, e1⟩ | ⟨h1, e1⟩ <;> rcases cmpI_cases a.t b.t with ⟨h2, e2⟩ | ⟨h2, e2⟩ | ⟨h2, e2⟩ <;> rw [e, e1, e2] <;> simp

set_option maxHeartbeats 2000000 in
theorem pByOwner_any (w : World) (a b : Ls) (po po' : Value) :
    Calls Try.prog 65 #[.agg #[.int .i64 a.c, .int .i64 a.z, .int .i64 a.t, po], .agg #[.int .i64 b.c, .int .i64 b.z, .int .i64 b.t, po']] w fun e w' => e = .returned (.int .i64 (ownC a b)) ∧ Below w.heap.size w w' := by
  have hb1 := below_box w (.cells #[.int .i64 a.c, .int .i64 a.z, .int .i64 a.t, po] 57)
  have A1 := zbox_new w (.int .i64 a.c) (.int .i64 a.z) (.int .i64 a.t) po 57
  have hb2 := below_box (w.alloc (.cells #[.int .i64 a.c, .int .i64 a.z, .int .i64 a.t, po] 57)) (.cells #[.int .i64 b.c, .int .i64 b.z, .int .i64 b.t, po'] 57)
  have A2 := zbox_new (w.alloc (.cells #[.int .i64 a.c, .int .i64 a.z, .int .i64 a.t, po] 57)) (.int .i64 b.c) (.int .i64 b.z) (.int .i64 b.t) po' 57
  replace A1 := A1.below hb2
  have hb0 := hb1.trans (hb2.mono hb1.size)
  have hs0 : (w.alloc (.cells #[.int .i64 a.c, .int .i64 a.z, .int .i64 a.t, po] 57)).heap.size = w.heap.size + 1 := by simp
  rw [hs0] at A2
  clear hb1 hb2 hs0
  obtain ⟨W0, hW0⟩ : ∃ W0, (w.alloc (.cells #[.int .i64 a.c, .int .i64 a.z, .int .i64 a.t, po] 57)).alloc (.cells #[.int .i64 b.c, .int .i64 b.z, .int .i64 b.t, po'] 57) = W0 := ⟨_, rfl⟩
  rw [hW0] at A1 A2 hb0
  have HW0 : Hid _ := hW0
  clear hW0
  obtain ⟨x0, h0⟩ : ∃ x, cmpI a.c b.c = x := ⟨_, rfl⟩
  obtain ⟨x1, h1⟩ : ∃ x, cmpI a.z b.z = x := ⟨_, rfl⟩
  obtain ⟨x2, h2⟩ : ∃ x, cmpI a.t b.t = x := ⟨_, rfl⟩
  have HO : Hid (ownC a b = orL [x0, x1, x2]) := by show _ = _; unfold ownC; rw [h0, h1, h2]
  have C0 := fun W => cmpCompare_any W a.c b.c
  have C1 := fun W => cmpCompare_any W a.z b.z
  have C2 := fun W => cmpCompare_any W a.t b.t
  rw [h0] at C0
  rw [h1] at C1
  rw [h2] at C2
  clear h0 h1 h2
  have S1 : Below W0.heap.size W0 { W0 with drawn := W0.drawn + 1 } := (Below.refl W0.heap.size W0).drew
  have m0 : ∀ wx, Below W0.heap.size W0 wx → wx.cell? ⟨w.heap.size, 0, none⟩ = some (.int .i64 a.c) := fun wx h => keep A1.c0 h
  have m1 : ∀ wx, Below W0.heap.size W0 wx → wx.cell? ⟨w.heap.size, 1, none⟩ = some (.int .i64 a.z) := fun wx h => keep A1.c1 h
  have m2 : ∀ wx, Below W0.heap.size W0 wx → wx.cell? ⟨w.heap.size, 2, none⟩ = some (.int .i64 a.t) := fun wx h => keep A1.c2 h
  have n0 : ∀ wx, Below W0.heap.size W0 wx → wx.cell? ⟨w.heap.size + 1, 0, none⟩ = some (.int .i64 b.c) := fun wx h => keep A2.c0 h
  have n1 : ∀ wx, Below W0.heap.size W0 wx → wx.cell? ⟨w.heap.size + 1, 1, none⟩ = some (.int .i64 b.z) := fun wx h => keep A2.c1 h
  have n2 : ∀ wx, Below W0.heap.size W0 wx → wx.cell? ⟨w.heap.size + 1, 2, none⟩ = some (.int .i64 b.t) := fun wx h => keep A2.c2 h
  go_enter Try.func65, Try.ntmps65
  go_wp2_with (rw [HW0.out])
  clear HW0
  refine wp_region_peel (S := fun wx => Below W0.heap.size W0 wx) 17 _ (by kernel_rfl) (by kernel_rfl) rfl ?_
  simp only [List.take_succ_cons, List.take_zero]
  refine takeH 0 (v := .pointer (some ⟨w.heap.size, 0, none⟩)) rfl (by kernel_rfl) (by kernel_rfl) (by kernel_rfl) (fun _ _ _ h => h) rfl (fun wx hSx => ?_) S1 ?_
  · go_simp
  try simp only [Act.put, List.setIfInBounds_toArray, List.set_cons_zero, List.set_cons_succ]
  refine takeH 1 (v := .int .i64 a.c) rfl (by kernel_rfl) (by kernel_rfl) (by kernel_rfl) (fun _ _ _ h => h) rfl (fun wx hSx => ?_) S1 ?_
  · go_simp
  try simp only [Act.put, List.setIfInBounds_toArray, List.set_cons_zero, List.set_cons_succ]
  refine takeH 2 (v := .pointer (some ⟨w.heap.size + 1, 0, none⟩)) rfl (by kernel_rfl) (by kernel_rfl) (by kernel_rfl) (fun _ _ _ h => h) rfl (fun wx hSx => ?_) S1 ?_
  · go_simp
  try simp only [Act.put, List.setIfInBounds_toArray, List.set_cons_zero, List.set_cons_succ]
  refine takeH 3 (v := .int .i64 b.c) rfl (by kernel_rfl) (by kernel_rfl) (by kernel_rfl) (fun _ _ _ h => h) rfl (fun wx hSx => ?_) S1 ?_
  · go_simp
  try simp only [Act.put, List.setIfInBounds_toArray, List.set_cons_zero, List.set_cons_succ]
  refine takeH 5 (v := .pointer (some ⟨w.heap.size, 1, none⟩)) rfl (by kernel_rfl) (by kernel_rfl) (by kernel_rfl) (fun _ _ _ h => h) rfl (fun wx hSx => ?_) S1 ?_
  · go_simp
  try simp only [Act.put, List.setIfInBounds_toArray, List.set_cons_zero, List.set_cons_succ]
  refine takeH 6 (v := .int .i64 a.z) rfl (by kernel_rfl) (by kernel_rfl) (by kernel_rfl) (fun _ _ _ h => h) rfl (fun wx hSx => ?_) S1 ?_
  · go_simp
  try simp only [Act.put, List.setIfInBounds_toArray, List.set_cons_zero, List.set_cons_succ]
  refine takeH 7 (v := .pointer (some ⟨w.heap.size + 1, 1, none⟩)) rfl (by kernel_rfl) (by kernel_rfl) (by kernel_rfl) (fun _ _ _ h => h) rfl (fun wx hSx => ?_) S1 ?_
  · go_simp
  try simp only [Act.put, List.setIfInBounds_toArray, List.set_cons_zero, List.set_cons_succ]
  refine takeH 8 (v := .int .i64 b.z) rfl (by kernel_rfl) (by kernel_rfl) (by kernel_rfl) (fun _ _ _ h => h) rfl (fun wx hSx => ?_) S1 ?_
  · go_simp
  try simp only [Act.put, List.setIfInBounds_toArray, List.set_cons_zero, List.set_cons_succ]
  refine takeH 10 (v := .pointer (some ⟨w.heap.size, 2, none⟩)) rfl (by kernel_rfl) (by kernel_rfl) (by kernel_rfl) (fun _ _ _ h => h) rfl (fun wx hSx => ?_) S1 ?_
  · go_simp
  try simp only [Act.put, List.setIfInBounds_toArray, List.set_cons_zero, List.set_cons_succ]
  refine takeH 11 (v := .int .i64 a.t) rfl (by kernel_rfl) (by kernel_rfl) (by kernel_rfl) (fun _ _ _ h => h) rfl (fun wx hSx => ?_) S1 ?_
  · go_simp
  try simp only [Act.put, List.setIfInBounds_toArray, List.set_cons_zero, List.set_cons_succ]
  refine takeH 12 (v := .pointer (some ⟨w.heap.size + 1, 2, none⟩)) rfl (by kernel_rfl) (by kernel_rfl) (by kernel_rfl) (fun _ _ _ h => h) rfl (fun wx hSx => ?_) S1 ?_
  · go_simp
  try simp only [Act.put, List.setIfInBounds_toArray, List.set_cons_zero, List.set_cons_succ]
  refine takeH 13 (v := .int .i64 b.t) rfl (by kernel_rfl) (by kernel_rfl) (by kernel_rfl) (fun _ _ _ h => h) rfl (fun wx hSx => ?_) S1 ?_
  · go_simp
  try simp only [Act.put, List.setIfInBounds_toArray, List.set_cons_zero, List.set_cons_succ]
  refine oneH 4 (by kernel_rfl) rfl rfl (fun K4 hK4 => ?_)
  go_simp
  refine (C0 _).mono ?_
  rintro e wq ⟨rfl, rfl⟩
  refine hK4 _ _ S1 ?_
  try simp only [Act.put, List.setIfInBounds_toArray, List.set_cons_zero, List.set_cons_succ]
  refine oneH 9 (by kernel_rfl) rfl rfl (fun K9 hK9 => ?_)
  go_simp
  refine (C1 _).mono ?_
  rintro e wq ⟨rfl, rfl⟩
  refine hK9 _ _ S1 ?_
  try simp only [Act.put, List.setIfInBounds_toArray, List.set_cons_zero, List.set_cons_succ]
  refine oneH 14 (by kernel_rfl) rfl rfl (fun K14 hK14 => ?_)
  go_simp
  refine (C2 _).mono ?_
  rintro e wq ⟨rfl, rfl⟩
  refine hK14 _ _ S1 ?_
  try simp only [Act.put, List.setIfInBounds_toArray, List.set_cons_zero, List.set_cons_succ]
  refine oneH 15 (by kernel_rfl) rfl rfl (fun K5 hK5 => ?_)
  go_simp
  have SA : Below W0.heap.size W0 (W0.alloc (.cells #[.int .i64 x0, .int .i64 x1, .int .i64 x2] 3)).drew := ((Below.refl _ _).alloc (Nat.le_refl _) _).drew
  have hN : Nums (W0.alloc (.cells #[.int .i64 x0, .int .i64 x1, .int .i64 x2] 3)).drew (some ⟨W0.heap.size, 0, none⟩) 3 [x0, x1, x2] := by
    refine ⟨rfl, by omega, fun i hi => ⟨W0.heap.size, 0, rfl, ?_⟩⟩
    have hc := cell_three_new W0 (.int .i64 x0) (.int .i64 x1) (.int .i64 x2) 3
    have hi' : i < 3 := by simpa using hi
    have h2 : (W0.alloc (.cells #[.int .i64 x0, .int .i64 x1, .int .i64 x2] 3)).drew.cell? ⟨W0.heap.size, i, none⟩ = (W0.alloc (.cells #[.int .i64 x0, .int .i64 x1, .int .i64 x2] 3)).cell? ⟨W0.heap.size, i, none⟩ := rfl
    rw [Nat.zero_add, h2]
    rcases (show i = 0 ∨ i = 1 ∨ i = 2 by omega) with rfl | rfl | rfl
    · exact hc 0 _ rfl
    · exact hc 1 _ rfl
    · exact hc 2 _ rfl
  refine hK5 _ _ SA ?_
  try simp only [Act.put, List.setIfInBounds_toArray, List.set_cons_zero, List.set_cons_succ]
  have HC := cmpOr_any _ (some ⟨W0.heap.size, 0, none⟩) 3 3 [x0, x1, x2] hN
  obtain ⟨V, hV⟩ : ∃ V, (W0.alloc (.cells #[.int .i64 x0, .int .i64 x1, .int .i64 x2] 3)).drew = V := ⟨_, rfl⟩
  rw [hV] at SA HC ⊢
  obtain ⟨R, hR⟩ : ∃ R, orL [x0, x1, x2] = R := ⟨_, rfl⟩
  rw [hR] at HC
  have HR : Hid _ := hR
  clear hV hN hR
  refine oneH 16 (by kernel_rfl) rfl rfl (fun K6 hK6 => ?_)
  go_simp
  refine HC.mono ?_
  rintro e wq ⟨rfl, rfl⟩
  refine hK6 _ _ SA ?_
  try simp only [Act.put, List.setIfInBounds_toArray, List.set_cons_zero, List.set_cons_succ]
  refine wpAnyH_done (by kernel_rfl) ?_ _
  show Oper.wp _ _ _ _ _ _
  have hB := hb0.trans (SA.mono hb0.size)
  clear hK4 hK9 hK14 hK5 hK6 m0 m1 m2 n0 n1 n2 A1 A2 C0 C1 C2 HC S1
  go_wp2
  go_ret
  exact ⟨by rw [HO.out, HR.out]; rfl, hB⟩

end Go.Proofs.Ytbjlbmofdnkmiaa

/-
  OWN TEXT. Contracts of slices.IndexFunc and slices.ContainsFunc over numbers, whatever the closure.
-/
namespace Go.Proofs.Ytbjlbmofdnkmiaa
open Go Go.RowKit Go.Proofs.Ytbjlbmofdnkmiaa.Kit

/-- What the closure does at the numbers of a list, whatever new memory there is. -/
def HoldsI (F : Nat) (caps : Array Value) (l : List Int) (g : Int → Bool) (w : World) : Prop :=
  ∀ (i : Nat), i < l.length → ∀ W : World, Below w.heap.size w W → Calls Try.prog F (#[Value.int .i64 (l.getD i 0)] ++ caps) W fun e W' => e = .returned (.bool (g (l.getD i 0))) ∧ Below W.heap.size W W'

/-- The first place at which it holds is returned, or -1. -/
def FoundI (e : Ending) (l : List Int) (g : Int → Bool) : Prop :=
  (∃ k : Nat, k < l.length ∧ e = .returned (.int .i64 (k : Int)) ∧ g (l.getD k 0) = true ∧ ∀ j, j < k → g (l.getD j 0) = false) ∨ (e = .returned (.int .i64 (-1)) ∧ ∀ j, j < l.length → g (l.getD j 0) = false)

set_option maxHeartbeats 1000000 in
theorem iIndex_any (w : World) (F : Nat) (caps : Array Value) (ao : Option Addr) (n cap : Nat) (l : List Int) (g : Int → Bool) (h : Nums w ao n l)
    (hcall : ∀ args W, (callFunc F args).run Try.prog W = .ok (.enter F args) W) (hc : HoldsI F caps l g w) :
    Calls Try.prog 99 #[.slice ao n cap, .func (.func F) #[] caps] w fun e w' => FoundI e l g ∧ Below w.heap.size w w' := by
  have hlen := h.len
  have hrch := h.reach
  go_enter Try.func99, Try.ntmps99
  go_wp2
  go_loopw [8] (fun i wr => ∃ k : Nat, k ≤ n ∧ i = .int .i64 k ∧ Hid (∀ j, j < k → g (l.getD j 0) = false) ∧ Below w.heap.size w wr) (fun i _ => n - (intOf i).toNat)
  case atStart => exact ⟨0, Nat.zero_le _, rfl, (fun j hj => absurd hj (Nat.not_lt_zero j)), Below.refl _ _⟩
  case round =>
    obtain ⟨k, hk, rfl, hN, hb⟩ := hrel
    by_cases hlt : k < n
    · obtain ⟨b, o, rfl, c0⟩ := h.at_ k (by omega)
      have hc1 := hc k (by omega) wr hb
      obtain ⟨x, hr⟩ : ∃ x, l.getD k 0 = x := ⟨_, rfl⟩
      have HR : Hid (l.getD k 0 = x) := hr
      rw [hr] at c0 hc1
      clear hr
      have d0 := keep c0 hb
      clear c0
      go_wp2_with fail
      refine hc1.mono ?_
      rintro e w1 ⟨rfl, hb1⟩
      have hB := hb.trans (hb1.mono hb.size)
      clear hc1 d0 hc
      cases hg : g x with
      | true =>
        have HT : Hid (g (l.getD k 0) = true) := by show _ = _; rw [HR.out]; exact hg
        clear hg
        go_wp2
        go_ret
        exact ⟨.inl ⟨k, by omega, rfl, HT.out, hN.out⟩, hB⟩
      | false =>
        have HF : Hid (∀ j, j < k + 1 → g (l.getD j 0) = false) := fun j hj => by
          by_cases e : j = k
          · rw [e, HR.out]; exact hg
          · exact hN.out j (by omega)
        clear hg hN
        go_wp2
        go_roundw
        case rel => exact ⟨k + 1, by omega, by go_num, HF, hB⟩
        case measure => simp [intOf]; omega
    · have HF : Hid (∀ j, j < l.length → g (l.getD j 0) = false) := fun j hj => hN.out j (by omega)
      clear hN hc
      go_wp2
      go_ret
      exact ⟨.inr ⟨rfl, HF.out⟩, hb⟩

theorem anyI_of_found {l : List Int} {g : Int → Bool} {k : Nat} (hk : k < l.length) (h : g (l.getD k 0) = true) : l.any g = true := by
  rw [List.any_eq_true]
  exact ⟨l[k], List.getElem_mem _, by rw [List.getD_eq_getElem?_getD, List.getElem?_eq_getElem hk] at h; exact h⟩
theorem anyI_of_none {l : List Int} {g : Int → Bool} (h : ∀ j, j < l.length → g (l.getD j 0) = false) : l.any g = false := by
  rw [List.any_eq_false]
  intro x hx
  obtain ⟨i, hi, rfl⟩ := List.getElem_of_mem hx
  have := h i hi
  rw [List.getD_eq_getElem?_getD, List.getElem?_eq_getElem hi] at this
  simp only [Option.getD_some] at this
  simp [this]

set_option maxHeartbeats 1000000 in
theorem iContains_any (w : World) (F : Nat) (caps : Array Value) (ao : Option Addr) (n cap : Nat) (l : List Int) (g : Int → Bool) (h : Nums w ao n l)
    (hcall : ∀ args W, (callFunc F args).run Try.prog W = .ok (.enter F args) W) (hc : HoldsI F caps l g w) :
    Calls Try.prog 78 #[.slice ao n cap, .func (.func F) #[] caps] w fun e w' => e = .returned (.bool (l.any g)) ∧ Below w.heap.size w w' := by
  go_enter Try.func78, Try.ntmps78
  go_wp2_with fail
  go_at_call 99
  refine (iIndex_any w F caps ao n cap l g h hcall hc).mono ?_
  rintro e w1 ⟨hf, hb⟩
  rcases hf with ⟨k, hk, rfl, hg, _⟩ | ⟨rfl, hg⟩
  · have HF : Hid (l.any g = true) := anyI_of_found hk hg
    clear hg hc
    go_wp2
    go_ret
    exact ⟨ret_bool HF.out.symm, hb⟩
  · have HF : Hid (l.any g = false) := anyI_of_none hg
    clear hg hc
    go_wp2
    go_ret
    exact ⟨ret_bool HF.out.symm, hb⟩

end Go.Proofs.Ytbjlbmofdnkmiaa

/-
  OWN TEXT. Contracts of the code: pages.listMayBe.
-/
namespace Go.Proofs.Ytbjlbmofdnkmiaa
open Go Go.RowKit Go.Proofs.Ytbjlbmofdnkmiaa.Kit

theorem listMayF_call (args : Array Value) (W : World) : (callFunc 79 args).run Try.prog W = .ok (.enter 79 args) W := by kernel_rfl

set_option maxHeartbeats 1000000 in
theorem listMayF_any (w : World) (hb lb : Nat) (zo : Option Addr) (zn zc : Nat) (zs : List Zc) (k : Nat) (p : Int) (hz : Zons w zo zn zs) (hk : k < zn) (h0 : w.cell? ⟨hb, 0, none⟩ = some (.slice zo zn zc)) (h1 : w.cell? ⟨lb, 1, none⟩ = some (.int .i64 (k : Int))) :
    Calls Try.prog 79 #[.int .i64 p, .pointer (some ⟨hb, 0, none⟩), .pointer (some ⟨lb, 0, none⟩)] w fun e w' => e = .returned (.bool (!inB p (zs.getD k .zero).z.f ((zs.getD k .zero).z.t - 1))) ∧ Below w.heap.size w w' := by
  obtain ⟨g, off, z, fo, fn, fc, to_, tn, tc, rfl, c0, c1, c2, c3, _, hX⟩ := hz.at k hk
  rw [hX.out]
  have HP := pIsPage_any w z.f z.t p (.slice fo fn fc) (.slice to_ tn tc)
  have hr := hz.reach
  dsimp only
  obtain ⟨r, hrr⟩ : ∃ r, inB p z.f (z.t - 1) = r := ⟨_, rfl⟩
  rw [hrr] at HP ⊢
  clear hrr hX hz
  go_enter Try.func79, Try.ntmps79
  go_wp2_with fail
  go_at_call 80
  refine HP.mono ?_
  rintro e w1 ⟨rfl, hb1⟩
  clear HP c0 c1 c2 c3 h0 h1
  go_wp2
  go_ret
  exact ⟨rfl, hb1⟩

/-- A list may be, as the code asks for it. -/
structure LsOkX (x : Hx) (l : Ls) : Prop where
  c : 0 ≤ l.c ∧ l.c ≤ x.cpus - 1
  z : 0 ≤ l.z ∧ l.z < x.zn
  t : 0 ≤ l.t ∧ l.t ≤ 2
  n : 1 ≤ l.pages.length ∧ l.pages.length ≤ 8
  p : ∀ i, i < l.pages.length → (x.zs.getD l.z.toNat .zero).z.f ≤ l.pages.getD i 0 ∧ l.pages.getD i 0 < (x.zs.getD l.z.toNat .zero).z.t

set_option maxHeartbeats 4000000 in
theorem pListMay_any (w : World) (x : Hx) (l : Ls) (po : Option Addr) (pn pc : Nat) (hx : x.At w) (hp : Nums w po pn l.pages) :
    Calls Try.prog 64 #[.agg #[.slice x.zo x.zn x.zc, .slice x.mo x.mn x.mc, .int .i64 x.cpus, .slice x.lo x.ln x.lc, .slice x.vo x.vn x.vc], .agg #[.int .i64 l.c, .int .i64 l.z, .int .i64 l.t, .slice po pn pc]] w fun e w' => RetIff e (LsOkX x l) ∧ Below w.heap.size w w' := by
  have hb1 := below_box w (.cells #[.slice x.zo x.zn x.zc, .slice x.mo x.mn x.mc, .int .i64 x.cpus, .slice x.lo x.ln x.lc, .slice x.vo x.vn x.vc] 28)
  have A1 := hbox_new w (.slice x.zo x.zn x.zc) (.slice x.mo x.mn x.mc) (.int .i64 x.cpus) (.slice x.lo x.ln x.lc) (.slice x.vo x.vn x.vc) 28
  have hb2 := below_box (w.alloc (.cells #[.slice x.zo x.zn x.zc, .slice x.mo x.mn x.mc, .int .i64 x.cpus, .slice x.lo x.ln x.lc, .slice x.vo x.vn x.vc] 28)) (.cells #[.int .i64 l.c, .int .i64 l.z, .int .i64 l.t, .slice po pn pc] 57)
  have A2 := zbox_new (w.alloc (.cells #[.slice x.zo x.zn x.zc, .slice x.mo x.mn x.mc, .int .i64 x.cpus, .slice x.lo x.ln x.lc, .slice x.vo x.vn x.vc] 28)) (.int .i64 l.c) (.int .i64 l.z) (.int .i64 l.t) (.slice po pn pc) 57
  replace A1 := A1.below hb2
  have hb0 := hb1.trans (hb2.mono hb1.size)
  have hs0 : (w.alloc (.cells #[.slice x.zo x.zn x.zc, .slice x.mo x.mn x.mc, .int .i64 x.cpus, .slice x.lo x.ln x.lc, .slice x.vo x.vn x.vc] 28)).heap.size = w.heap.size + 1 := by simp
  rw [hs0] at A2
  clear hb1 hb2 hs0
  obtain ⟨W0, hW0⟩ : ∃ W0, (w.alloc (.cells #[.slice x.zo x.zn x.zc, .slice x.mo x.mn x.mc, .int .i64 x.cpus, .slice x.lo x.ln x.lc, .slice x.vo x.vn x.vc] 28)).alloc (.cells #[.int .i64 l.c, .int .i64 l.z, .int .i64 l.t, .slice po pn pc] 57) = W0 := ⟨_, rfl⟩
  rw [hW0] at A1 A2 hb0
  have HW0 : Hid _ := hW0
  clear hW0
  have hz := hx.zones.below hb0
  replace hp := hp.below hb0
  have hlen := hp.len
  have rz := hz.reach
  have rp := hp.reach
  have HC := pIsCpu_any W0 (.slice x.zo x.zn x.zc) (.slice x.mo x.mn x.mc) (.slice x.lo x.ln x.lc) (.slice x.vo x.vn x.vc) x.cpus l.c
  have HT := fun W => pIsType_any W l.t
  have a0 := A1.c0
  have a1 := A1.c1
  have a2 := A1.c2
  have a3 := A1.c3
  have a4 := A1.c4
  have b0 := A2.c0
  go_enter Try.func64, Try.ntmps64
  go_wp2_with (rw [HW0.out])
  go_at_call 45
  refine HC.mono ?_
  rintro e W1 ⟨rfl, hb1⟩
  clear HC HW0 a0 a1 a2 a3 a4 b0
  replace A1 := A1.below hb1
  replace A2 := A2.below hb1
  replace hz := hz.below hb1
  replace hp := hp.below hb1
  have hB1 := hb0.trans (hb1.mono hb0.size)
  have a0 := A1.c0
  have b0 := A2.c0
  have b1 := A2.c1
  have b2 := A2.c2
  have b3 := A2.c3
  have HN : ∀ e, (e = Ending.returned (.bool false)) → ¬ LsOkX x l → RetIff e (LsOkX x l) := fun e he hn => ⟨false, he, by simp [hn]⟩
  have HN' : Hid _ := HN
  clear HN
  by_cases h1 : 0 ≤ l.c ∧ l.c ≤ x.cpus - 1
  · rw [inB_t h1]
    by_cases h2 : 0 ≤ l.z
    · by_cases h3 : l.z < x.zn
      · go_wp2_with fail
        go_at_call 67
        refine (HT _).mono ?_
        rintro e W2 ⟨rfl, rfl⟩
        by_cases h4 : 0 ≤ l.t ∧ l.t ≤ 2
        · rw [inB_t h4]
          by_cases h5 : (pn : Int) < 1
          · have hn : Hid (¬ LsOkX x l) := fun h => by have := h.n; omega
            go_wp2
            go_ret
            exact ⟨HN'.out _ rfl hn.out, hB1⟩
          · by_cases h6 : (8 : Int) < pn
            · have hn : Hid (¬ LsOkX x l) := fun h => by have := h.n; omega
              go_wp2
              go_ret
              exact ⟨HN'.out _ rfl hn.out, hB1⟩
            · obtain ⟨k, hk⟩ : ∃ k : Nat, l.z = k := ⟨l.z.toNat, by omega⟩
              have hkn : k < x.zn := by omega
              have b1' := b1
              rw [hk] at b1'
              have HI := iContains_any W1 79 #[.pointer (some ⟨w.heap.size, 0, none⟩), .pointer (some ⟨w.heap.size + 1, 0, none⟩)] po pn pc l.pages (fun p => !inB p (x.zs.getD k .zero).z.f ((x.zs.getD k .zero).z.t - 1)) hp listMayF_call (fun i hi W hW => listMayF_any W w.heap.size (w.heap.size + 1) x.zo x.zn x.zc x.zs k _ (hz.below hW) hkn (keep a0 hW) (keep b1' hW))
              have HK : Hid (l.z = k) := hk
              clear hk b1'
              go_wp2_with fail
              go_at_call 78
              refine HI.mono ?_
              rintro e W2 ⟨rfl, hb2⟩
              have hB2 := hB1.trans (hb2.mono hB1.size)
              have hfin : Hid (((!(l.pages.any fun p => !inB p (x.zs.getD k .zero).z.f ((x.zs.getD k .zero).z.t - 1))) = true) ↔ LsOkX x l) := by
                show _ ↔ _
                rw [Bool.not_eq_true', List.any_eq_false]
                constructor
                · intro h
                  refine ⟨h1, by rw [HK.out]; omega, h4, by omega, fun i hi => ?_⟩
                  have := h (l.pages.getD i 0) (getD_mem hi)
                  simp only [Bool.not_eq_true, Bool.not_eq_false'] at this
                  have := of_decide_eq_true this
                  rw [HK.out]
                  simp only [Int.toNat_natCast]
                  omega
                · intro h p hp
                  obtain ⟨i, hi, rfl⟩ := List.getElem_of_mem hp
                  have := h.p i hi
                  have e : l.pages.getD i 0 = l.pages[i] := by rw [List.getD_eq_getElem?_getD, List.getElem?_eq_getElem hi]; rfl
                  rw [HK.out, e] at this
                  simp only [Int.toNat_natCast] at this
                  rw [inB_t (by omega)]
                  simp
              generalize (l.pages.any fun p => !inB p (x.zs.getD k .zero).z.f ((x.zs.getD k .zero).z.t - 1)) = r at hfin ⊢
              clear HI b0 b1 b2 b3 a0
              go_wp2
              go_ret
              exact ⟨⟨_, rfl, hfin.out⟩, hB2⟩
        · rw [inB_f h4]
          have hn : Hid (¬ LsOkX x l) := fun h => h4 h.t
          go_wp2
          go_ret
          exact ⟨HN'.out _ rfl hn.out, hB1⟩
      · have hn : Hid (¬ LsOkX x l) := fun h => h3 h.z.2
        go_wp2
        go_ret
        exact ⟨HN'.out _ rfl hn.out, hB1⟩
    · have hn : Hid (¬ LsOkX x l) := fun h => h2 h.z.1
      go_wp2
      go_ret
      exact ⟨HN'.out _ rfl hn.out, hB1⟩
  · rw [inB_f h1]
    have hn : Hid (¬ LsOkX x l) := fun h => h1 h.c
    go_wp2
    go_ret
    exact ⟨HN'.out _ rfl hn.out, hB1⟩

end Go.Proofs.Ytbjlbmofdnkmiaa

/-
  OWN TEXT. Contracts of the code: pages.listsMayBe.
-/
namespace Go.Proofs.Ytbjlbmofdnkmiaa
open Go Go.RowKit Go.Proofs.Ytbjlbmofdnkmiaa.Kit

/-- The lists may be, as the code asks for it. -/
structure LssOkX (x : Hx) : Prop where
  ok : ∀ i, i < x.ln → LsOkX x (x.ls.getD i .zero).l
  ord : ∀ i, 0 < i → i < x.ln → aheadL (x.ls.getD (i - 1) .zero).l (x.ls.getD i .zero).l

/-- So far they may be. -/
def LssTo (x : Hx) (k : Nat) : Prop := (∀ i, i < k → LsOkX x (x.ls.getD i .zero).l) ∧ ∀ i, 0 < i → i < k → aheadL (x.ls.getD (i - 1) .zero).l (x.ls.getD i .zero).l

set_option maxRecDepth 4000 in
set_option maxHeartbeats 4000000 in
theorem pListsMay_any (w : World) (x : Hx) (hx : x.At w) :
    Calls Try.prog 33 #[.agg #[.slice x.zo x.zn x.zc, .slice x.mo x.mn x.mc, .int .i64 x.cpus, .slice x.lo x.ln x.lc, .slice x.vo x.vn x.vc]] w fun e w' => RetIff e (LssOkX x) ∧ Below w.heap.size w w' := by
  obtain ⟨lo, hlo⟩ : ∃ lo, x.lo = lo := ⟨_, rfl⟩
  have hL := hx.lists
  rw [hlo] at hL ⊢
  have HLO : Hid (x.lo = lo) := hlo
  clear hlo
  have hb1 := below_box w (.cells #[.slice x.zo x.zn x.zc, .slice x.mo x.mn x.mc, .int .i64 x.cpus, .slice lo x.ln x.lc, .slice x.vo x.vn x.vc] 28)
  have A1 := hbox_new w (.slice x.zo x.zn x.zc) (.slice x.mo x.mn x.mc) (.int .i64 x.cpus) (.slice lo x.ln x.lc) (.slice x.vo x.vn x.vc) 28
  obtain ⟨W0, hW0⟩ : ∃ W0, w.alloc (.cells #[.slice x.zo x.zn x.zc, .slice x.mo x.mn x.mc, .int .i64 x.cpus, .slice lo x.ln x.lc, .slice x.vo x.vn x.vc] 28) = W0 := ⟨_, rfl⟩
  rw [hW0] at A1 hb1
  have HW0 : Hid _ := hW0
  clear hW0
  replace hx := hx.below hb1
  replace hL := hL.below hb1
  have rl := hx.lists.reach
  have hln := hx.lists.len
  have a3 := A1.c3
  have HNo : Hid (∀ e, (e = Ending.returned (.bool false)) → ¬ LssOkX x → RetIff e (LssOkX x)) := fun e he hn => ⟨false, he, by simp [hn]⟩
  go_enter Try.func33, Try.ntmps33
  go_wp2_with (rw [HW0.out])
  clear HW0 a3
  go_loopw [8] (fun iv wr => ∃ k : Nat, k ≤ x.ln ∧ iv = .int .i64 k ∧ Hid (LssTo x k) ∧ Below W0.heap.size W0 wr) (fun iv _ => x.ln - (intOf iv).toNat)
  case atStart => exact ⟨0, Nat.zero_le _, rfl, ⟨fun i hi => by omega, fun i _ hi => by omega⟩, Below.refl _ _⟩
  case round =>
    obtain ⟨k, hk, rfl, hTo, hB⟩ := hrel
    by_cases hlt : k < x.ln
    · obtain ⟨g, off, c, z, t, pages, po, pn, pc, ha, c0, c1, c2, c3, hat, hz⟩ := (hL.below hB).at k hlt
      have hbb := below_box wr (.cells #[.int .i64 c, .int .i64 z, .int .i64 t, .slice po pn pc] 57)
      have ZB := zbox_new wr (.int .i64 c) (.int .i64 z) (.int .i64 t) (.slice po pn pc) 57
      obtain ⟨Wb, hWb⟩ : ∃ Wb, wr.alloc (.cells #[.int .i64 c, .int .i64 z, .int .i64 t, .slice po pn pc] 57) = Wb := ⟨_, rfl⟩
      rw [hWb] at hbb ZB
      have HWb : Hid _ := hWb
      clear hWb
      have hBb := hB.trans (hbb.mono hB.size)
      have B1 := A1.below hBb
      have a0 := B1.c0
      have a1 := B1.c1
      have a2 := B1.c2
      have a3 := B1.c3
      have a4 := B1.c4
      have z0 := ZB.c0
      have z1 := ZB.c1
      have z2 := ZB.c2
      have z3 := ZB.c3
      have HL := pListMay_any Wb x ⟨c, z, t, pages⟩ po pn pc (hx.below hBb) (hat.below hbb)
      dsimp only at HL
      subst ha
      rw [HLO.out] at HL
      go_wp2_with (rw [HWb.out])
      go_at_call 64
      refine HL.mono ?_
      rintro e W2 ⟨⟨r, rfl, hr⟩, hb2⟩
      have HR : Hid (r = true ↔ LsOkX x (x.ls.getD k .zero).l) := by show _ ↔ _; rw [hz.out]; exact hr
      have hB2 := hBb.trans (hb2.mono hBb.size)
      have B2 := A1.below hB2
      have a3' := B2.c3
      replace ZB := ZB.below hb2
      clear HL a0 a1 a2 a3 a4 z0 z1 z2 z3 HWb B1 hr
      have z0 := ZB.c0
      have z1 := ZB.c1
      have z2 := ZB.c2
      have z3 := ZB.c3
      cases r with
      | false =>
        have hn : Hid (¬ LssOkX x) := fun h => absurd (HR.out.2 (h.ok k hlt)) (by simp)
        have hBB := hb1.trans (hB2.mono hb1.size)
        clear HR hTo
        go_wp2
        go_ret
        exact ⟨HNo.out _ rfl hn.out, hBB⟩
      | true =>
        have hok := HR.out.1 rfl
        by_cases h0 : k = 0
        · have HT : Hid (LssTo x (k + 1)) := by
            refine ⟨fun i hi => ?_, fun i h1 h2 => by omega⟩
            obtain rfl : i = k := by omega
            exact hok
          have H0 : Hid (k = 0) := h0
          clear HR hTo hok hz h0
          go_wp2_with fail
          obtain ⟨K, hK⟩ : ∃ K : Int, (k : Int) = K := ⟨_, rfl⟩
          rw [hK]
          have h0 := H0.out
          have t0 : decide ((0 : Int) < K) = false := decide_eq_false (by omega)
          have HK : Hid ((k : Int) = K) := hK
          have k1 : K = 0 := by omega
          clear h0 hK k1
          have k2 : K ≤ 0 := by have := of_decide_eq_false t0; omega
          have k3 : 0 ≤ K := by have := HK.out; omega
          go_quiet (fail)
          go_wp2
          go_roundw
          case rel => exact ⟨k + 1, by omega, by rw [← HK.out]; go_num, HT, hB2.trans ((below_drawn _).mono hB2.size)⟩
          case measure => rw [← HK.out]; simp [intOf]; omega
        · obtain ⟨j, hj⟩ : ∃ j, j + 1 = k := ⟨k - 1, by omega⟩
          obtain ⟨g', off', c', z', t', pages', po', pn', pc', ha', d0, d1, d2, d3, hat', hz'⟩ := (hL.below hB2).at j (by omega)
          simp only [Option.some.injEq, Addr.mk.injEq, and_true] at ha'
          obtain ⟨rfl, rfl⟩ := ha'
          have tj : (j : Int) < (x.ln : Int) := by omega
          have HO : Hid (∀ W, Below W2.heap.size W2 W → Calls Try.prog 65 #[.agg #[.int .i64 c', .int .i64 z', .int .i64 t', .slice po' pn' pc'], .agg #[.int .i64 c, .int .i64 z, .int .i64 t, .slice po pn pc]] W fun e w' => e = .returned (.int .i64 (ownC ⟨c', z', t', pages'⟩ ⟨c, z, t, pages⟩)) ∧ Below W2.heap.size W2 w') := fun W hS => by
            refine (pByOwner_any W ⟨c', z', t', pages'⟩ ⟨c, z, t, pages⟩ (.slice po' pn' pc') (.slice po pn pc)).mono ?_
            rintro e w' ⟨rfl, hb⟩
            exact ⟨rfl, hS.trans (hb.mono hS.size)⟩
          obtain ⟨C, hC⟩ : ∃ C, ownC ⟨c', z', t', pages'⟩ ⟨c, z, t, pages⟩ = C := ⟨_, rfl⟩
          have hrg := ownC_range ⟨c', z', t', pages'⟩ ⟨c, z, t, pages⟩
          have hng := ownC_neg ⟨c', z', t', pages'⟩ ⟨c, z, t, pages⟩
          rw [hC] at HO hrg hng
          have HN : Hid (C < 0 ↔ aheadL (x.ls.getD j .zero).l (x.ls.getD k .zero).l) := by show _ ↔ _; rw [hz.out, hz'.out]; exact hng
          obtain ⟨r1, r2⟩ := hrg
          have m0 : ∀ wx, Below W2.heap.size W2 wx → wx.cell? ⟨w.heap.size, 3, none⟩ = some (.slice (some ⟨g, off, none⟩) x.ln x.lc) := fun wx h => keep a3' h
          have m1 : ∀ wx, Below W2.heap.size W2 wx → wx.cell? ⟨g, off + j * 4, none⟩ = some (.int .i64 c') := fun wx h => keep d0 h
          have m2 : ∀ wx, Below W2.heap.size W2 wx → wx.cell? ⟨g, off + j * 4 + 1, none⟩ = some (.int .i64 z') := fun wx h => keep d1 h
          have m3 : ∀ wx, Below W2.heap.size W2 wx → wx.cell? ⟨g, off + j * 4 + 2, none⟩ = some (.int .i64 t') := fun wx h => keep d2 h
          have m4 : ∀ wx, Below W2.heap.size W2 wx → wx.cell? ⟨g, off + j * 4 + 3, none⟩ = some (.slice po' pn' pc') := fun wx h => keep d3 h
          have n0 : ∀ wx, Below W2.heap.size W2 wx → wx.cell? ⟨wr.heap.size, 0, none⟩ = some (.int .i64 c) := fun wx h => keep z0 h
          have n1 : ∀ wx, Below W2.heap.size W2 wx → wx.cell? ⟨wr.heap.size, 1, none⟩ = some (.int .i64 z) := fun wx h => keep z1 h
          have n2 : ∀ wx, Below W2.heap.size W2 wx → wx.cell? ⟨wr.heap.size, 2, none⟩ = some (.int .i64 t) := fun wx h => keep z2 h
          have n3 : ∀ wx, Below W2.heap.size W2 wx → wx.cell? ⟨wr.heap.size, 3, none⟩ = some (.slice po pn pc) := fun wx h => keep z3 h
          have S0 : Below W2.heap.size W2 W2 := Below.refl _ _
          have hTo' : Hid (aheadL (x.ls.getD j .zero).l (x.ls.getD k .zero).l → LssTo x (k + 1)) := fun hah => ⟨fun i hi => by
              by_cases e : i = k
              · rw [e]; exact hok
              · exact hTo.out.1 i (by omega), fun i h1 h2 => by
              by_cases e : i = k
              · rw [e, ← hj]; rw [← hj] at hah; exact hah
              · exact hTo.out.2 i h1 (by omega)⟩
          clear hC hng hz hz' hat hat' HR hTo hok c0 c1 c2 c3 d0 d1 d2 d3 z0 z1 z2 z3 a3' B2 ZB
          have HJ : Hid _ := hj
          clear hj
          go_wp2_with fail
          obtain ⟨K, hK⟩ : ∃ K : Int, (k : Int) = K := ⟨_, rfl⟩
          rw [hK]
          have t0 : (0 : Int) < K := by omega
          have t1 : decide ((0 : Int) < K) = true := decide_eq_true t0
          have ek : K - 1 = (j : Int) := by have := HJ.out; omega
          have kb : K ≤ 140737488351232 := by omega
          have ew : IntKind.i64.wrap (K - 1) = (j : Int) := by rw [ek]; exact IntWalk.i64_in _ (by omega)
          have ewj : IntKind.i64.wrap (j : Int) = (j : Int) := IntWalk.i64_in _ (by omega)
          clear ek
          have t2 : (0 : Int) ≤ (j : Int) := by omega
          have t3 : (j : Int) ≤ (x.ln : Int) := by omega
          have t4 : j < x.ln := by omega
          have HK : Hid ((k : Int) = K) := hK
          clear hK
          go_region_held3 (fun wx => Below W2.heap.size W2 wx) (first | assumption | exact Below.drew (by assumption))
            (first
              | (go_at_call 65; refine (HO.out _ ?_).mono ?_; assumption; rintro e w3 ⟨rfl, hS3⟩))
          have hB3 := hB2.trans (hS3.mono hB2.size)
          by_cases hC : C < 0
          · have HT := hTo'.out (HN.out.1 hC)
            have HT' : Hid _ := HT
            clear HT HN hTo' HO m0 m1 m2 m3 m4 n0 n1 n2 n3 S0
            go_wp2
            go_roundw
            case rel => exact ⟨k + 1, by omega, by rw [← HK.out]; go_num, HT', hB3⟩
            case measure => rw [← HK.out]; simp [intOf]; omega
          · have hn : Hid (¬ LssOkX x) := fun h => hC (HN.out.2 (by have := h.ord k (by omega) hlt; rw [show k - 1 = j by have := HJ.out; omega] at this; exact this))
            have hBB := hb1.trans (hB3.mono hb1.size)
            clear HN hTo' HO m0 m1 m2 m3 m4 n0 n1 n2 n3 S0
            go_wp2
            go_ret
            exact ⟨HNo.out _ rfl hn.out, hBB⟩
    · have hY : Hid (LssOkX x) := ⟨fun i hi => hTo.out.1 i (by omega), fun i h1 h2 => hTo.out.2 i h1 (by omega)⟩
      have hBB := hb1.trans (hB.mono hb1.size)
      clear hTo
      go_wp2
      go_ret
      exact ⟨⟨true, rfl, fun _ => hY.out, fun _ => rfl⟩, hBB⟩

end Go.Proofs.Ytbjlbmofdnkmiaa
