/-
  OWN TEXTS.
-/
import Derived.Test.YtjohdbiipeedkaaGreatDoorPart10
set_option maxRecDepth 10000
set_option maxHeartbeats 4000000
namespace Go.Proofs.YtjohdbiipeedkaaGreatDoor
open Go Go.RowKit Go.Proofs.YtjohdbiipeedkaaGreatDoor.Kit
def firstH (H : Hp) (cpu o fl : Int) : List Int → Option (Hp × Int)
 | [] => none
 | z :: l => match tryH H cpu z.toNat o fl with
  | some r => some r
  | none => firstH H cpu o fl l
theorem findH_eq (H : Hp) (cpu o fl : Int) : findH H cpu o fl = firstH H cpu o fl (zonesF fl) := by
 unfold findH zonesF
 by_cases h : fl % 2 = 1
 ·rw [if_pos h, if_pos h]
  show tryH H cpu 0 o fl = match tryH H cpu 0 o fl with | some r => some r | none => none
  cases tryH H cpu 0 o fl <;> rfl
 rw [if_neg h, if_neg h]
 show _ = match tryH H cpu 1 o fl with | some r => some r | none => (match tryH H cpu 0 o fl with | some r => some r | none => none)
 cases tryH H cpu 1 o fl <;> cases tryH H cpu 0 o fl <;> rfl
theorem firstH_none {H : Hp} {cpu o fl : Int} {z : Nat} {l : List Int} (h : tryH H cpu z o fl = none) : firstH H cpu o fl ((z : Int) :: l) = firstH H cpu o fl l := by
 show (match tryH H cpu ((z : Int).toNat) o fl with | some r => some r | none => firstH H cpu o fl l) = _
 rw [Int.toNat_natCast, h]
theorem firstH_some {H : Hp} {cpu o fl : Int} {z : Nat} {l : List Int} {r : Hp × Int} (h : tryH H cpu z o fl = some r) : firstH H cpu o fl ((z : Int) :: l) = some r := by
 show (match tryH H cpu ((z : Int).toNat) o fl with | some r => some r | none => firstH H cpu o fl l) = _
 rw [Int.toNat_natCast, h]
theorem zonesF_at (fl : Int) {k : Nat} (hk : k < (zonesF fl).length) : ∃ z : Nat, z < 2 ∧ (zonesF fl).drop k = (z : Int) :: (zonesF fl).drop (k + 1) := by
 unfold zonesF at hk ⊢
 split at hk
 ·rename_i h
  rw [if_pos h]
  have : k < 1 := hk
  obtain rfl : k = 0 := by omega
  exact ⟨0, by omega, rfl⟩
 rename_i h
 rw [if_neg h]
 have : k < 2 := hk
 rcases (show k = 0 ∨ k = 1 by omega) with rfl | rfl
 ·exact ⟨1, by omega, rfl⟩
 exact ⟨0, by omega, rfl⟩
theorem Got.pre {w w1 w2 : World} {gz gl hbk : Nat} {y : Hx} {r : Option (Hp × Int)} (h : Got w1 w2 gz gl hbk y r) (hb : Below w.heap.size w w1) : Got w w2 gz gl hbk y r := by
 rcases h with ⟨e, h⟩ | ⟨e, zs, ls, lo, ln, lc, h1, h2, h3, h4, h5⟩
 ·exact .inl ⟨e, Below.next hb h⟩
 exact .inr ⟨e, zs, ls, lo, ln, lc, h1, h2, h3, (Ex.of_below hb).trans h4, fun b hl => h5 b (Nat.lt_of_lt_of_le hl hb.size)⟩
theorem pTry_take (w : World) (B gz gl hbk : Nat) (y : Hx) (z : Nat) (cpu o fl : Int) (rhbk : w.heap[hbk]? = some (.cells #[.slice y.zo y.zn y.zc, .slice y.mo y.mn y.mc, .int .i64 y.cpus, .slice y.lo y.ln y.lc, .slice y.vo y.vn y.vc] 34 (0, 0))) (HY : HZ w B gz y) (hhz : hbk ≠ gz) (hT : TabAt w) (hMn : MnOk y.hp) (hZs : ZsOk y.hp) (hf : flag16 fl) (hz : z < 2) (ho : ordOk o) (h1 : ¬ o = 0) :
    Calls Tryz.prog 64 #[.pointer (some ⟨hbk, 0, none⟩), .int .i64 (z : Nat), .agg #[.int .i64 cpu, .int .i64 o, .int .i64 fl]] w fun e w' => e = .returned (.tuple #[.int .i64 (atO (tryH y.hp cpu z o fl)), .bool (tryH y.hp cpu z o fl).isSome]) ∧ Got w w' gz gl hbk y (tryH y.hp cpu z o fl) := by
 have e0 : tryH y.hp cpu z o fl = takeGH y.hp z o fl := if_neg h1
 rw [e0]
 refine (pTake_c w B gz hbk y z cpu o fl rhbk HY hhz hT hMn hZs hf hz ho).mono ?_
 rintro e w' ⟨rfl, h2, zs, h3, h4, h5, h6⟩
 refine ⟨rfl, ?_⟩
 cases hr : takeGH y.hp z o fl with
 | none => exact .inl ⟨rfl, h2 hr⟩
 | some r => exact .inr ⟨by simp, zs, y.ls, y.lo, y.ln, y.lc, But.row h5 rhbk hhz, h4.at_, by rw [hr] at h3; exact h3, Ex.of_but h5 (.inl rfl), fun b hb _ ha => awayP_F (y := y) (zs := zs) ha (h6 b hb ⟨ha.f, ha.t⟩)⟩
theorem pTry_single (w : World) (B gz gl hbk : Nat) (y : Hx) (z : Nat) (cpu o fl : Int) (rhbk : w.heap[hbk]? = some (.cells #[.slice y.zo y.zn y.zc, .slice y.mo y.mn y.mc, .int .i64 y.cpus, .slice y.lo y.ln y.lc, .slice y.vo y.vn y.vc] 34 (0, 0))) (HY : HZ w B gz y) (ol : w.ownsRow B 69 4 (.slice y.lo y.ln y.lc) y.ln (c4 (y.ls.map Lc.q))) (el : ∀ a, y.lo = some a → a.block = gl) (al : AwayL gl y) (ah : AwayL hbk y)
    (hhz : hbk ≠ gz) (hhl : hbk ≠ gl) (hzl : gz ≠ gl) (hgw : gl < w.heap.size) (hB : B ≤ w.heap.size) (hT : TabAt w) (hMn : MnOk y.hp) (hZs : ZsOk y.hp) (hls : LssOk y.hp) (hcp : y.hp.cpus ≤ 4) (hcap : ∀ l ∈ y.ls, l.pc = l.pn) (hf : flag16 fl) (hz : z < 2) (h0 : 0 < B) (h1 : o = 0) :
    Calls Tryz.prog 65 #[.pointer (some ⟨hbk, 0, none⟩), .int .i64 (z : Nat), .agg #[.int .i64 cpu, .int .i64 o, .int .i64 fl]] w fun e w' => e = .returned (.tuple #[.int .i64 (atO (tryH y.hp cpu z o fl)), .bool (tryH y.hp cpu z o fl).isSome]) ∧ Got w w' gz gl hbk y (tryH y.hp cpu z o fl) := by
 have e0 : tryH y.hp cpu z o fl = singleH y.hp cpu z fl := if_pos h1
 rw [e0, h1]
 exact pSingle_any w B gz gl hbk y z cpu fl rhbk HY ol el al ah hhz hhl hzl hgw hB hT hMn hZs hls hcp hcap hf hz h0
theorem pFind_c (w : World) (B gz gl hbk : Nat) (y : Hx) (cpu o fl : Int) (rhbk : w.heap[hbk]? = some (.cells #[.slice y.zo y.zn y.zc, .slice y.mo y.mn y.mc, .int .i64 y.cpus, .slice y.lo y.ln y.lc, .slice y.vo y.vn y.vc] 34 (0, 0))) (HY : HZ w B gz y) (ol : w.ownsRow B 69 4 (.slice y.lo y.ln y.lc) y.ln (c4 (y.ls.map Lc.q))) (el : ∀ a, y.lo = some a → a.block = gl) (al : AwayL gl y) (ah : AwayL hbk y)
    (hhz : hbk ≠ gz) (hhl : hbk ≠ gl) (hzl : gz ≠ gl) (hgw : gl < w.heap.size) (hB : B ≤ w.heap.size) (hT : TabAt w) (hMn : MnOk y.hp) (hZs : ZsOk y.hp) (hls : LssOk y.hp) (hcp : y.hp.cpus ≤ 4) (hcap : ∀ l ∈ y.ls, l.pc = l.pn) (hf : flag16 fl) (ho : ordOk o) (h0 : 0 < B) :
    Calls Tryz.prog 46 #[.pointer (some ⟨hbk, 0, none⟩), .agg #[.int .i64 cpu, .int .i64 o, .int .i64 fl]] w fun e w' => e = .returned (.tuple #[.int .i64 (atO (findH y.hp cpu o fl)), .bool (findH y.hp cpu o fl).isSome]) ∧ Got w w' gz gl hbk y (findH y.hp cpu o fl) := by
 have B0 := Below.refl w.heap.size w
 refine sx_enter (args := [_, _]) 32 Tryz.func46 rfl rfl rfl ?_
 refine vS (vR ?_); intro A f
 refine l_box f rfl rfl rfl rfl rfl ?_; clear f A; intro b1 W2 eb1 hb3 rb1 A f; dsimp only [Value.cells] at rb1
 have o_hbk_b1 : hbk < b1 := by have := row_lt rhbk; omega
 have z_B0_b1 := B0.size; rw [eb1] at z_B0_b1
 replace B0 := Below.next B0 hb3; replace rhbk := row_next rhbk hb3
 revert A; refine vla (h:=vla (h:=vW (vS (vR (vla (h:=vW (vS (vS (vR (vlf (h:=vl1 (rowq rb1) (h:=vlb (y_eql rfl rfl rfl) (h:=?_) (g:=?_)))))))))))))
 ·intro c4
  refine vW (vC (h:=vR (vla (h:=vW (vS (vS (vR (vl3 (rowq rb1) (h:=?_))))))))); intro A f
  refine l_call f rfl rfl rfl (IsCall.mk' (cap := []) rfl rfl rfl) (pl rfl) (rqZones_c _ cpu o fl hf) ?_
  clear f A; rintro _ W5 ⟨gq, rfl, hNq, hgq, hb6⟩; refine ⟨_, rfl, ?_⟩; intro A f
  replace B0 := Below.next B0 hb6; replace rhbk := row_next rhbk hb6; replace rb1 := row_next rb1 hb6
  obtain ⟨nz, hnz⟩ : ∃ n, (zonesF fl).length = n := ⟨_, rfl⟩
  have hnz2 : nz ≤ 2 := by rw [← hnz]; unfold zonesF; split <;> simp
  rw [hnz] at f hNq
  revert A; refine vlz (h:=vlm (h:=vW (vB ?_))); intro A f
  refine x_loop (fun n A W => ∃ (k : Nat), n = nz - k ∧ k ≤ nz ∧ Fr A 32 [(0, .pointer (some ⟨hbk, 0, none⟩)), (3, .pointer (some ⟨b1, 0, none⟩)), (6, .func (.func 65) #[] #[]), (15, .slice (some ⟨gq, 0, none⟩) nz nz), (16, .int .i64 (nz : Nat)), (17, .int .i64 (k : Nat))] ∧ Below W5.heap.size W5 W ∧ firstH y.hp cpu o fl ((zonesF fl).drop k) = findH y.hp cpu o fl) (n0 := nz) (⟨0, rfl, by omega, f.sub ⟨rfl, rfl, rfl, rfl, rfl, rfl, trivial⟩, Below.refl _ _, (findH_eq _ _ _ _).symm⟩) ?_
  clear f A
  rintro n A W7 ⟨k, hn, hk, f, hBW, hfirst⟩
  replace B0 := Below.next B0 hBW; replace hNq := hNq.below hBW; replace rhbk := row_next rhbk hBW; replace rb1 := row_next rb1 hBW
  revert A; refine vS (vR (vlb (y_lss rfl rfl rfl) (h:=?_) (g:=?_)))
  ·intro c8
   refine vW (vS (vC (h:=vK (vT (vS (vB (vS (vR ?_))))))))
   have B1 := Below.refl W7.heap.size W7
   obtain ⟨z, hz, hdz⟩ := zonesF_at fl (k := k) (by omega)
   obtain ⟨gq', oq, vq, haq, c0q, hXq⟩ := hNq.at_.at k (by have := hNq.len; omega)
   replace c0q := St.of c0q
   intro A f
   simp only [Option.some.injEq, Addr.mk.injEq, and_true] at haq; obtain ⟨rfl, rfl⟩ := haq
   rw [show 0 + k = 0 + k * 1 by omega] at c0q
   have hvq : vq = (z : Nat) := by
    have h1 := hXq.out
    have h2 : (zonesF fl)[k]? = some (z : Int) := by have h3 := List.getElem?_drop (xs := zonesF fl) (i := k) (j := 0); rw [hdz] at h3; simpa using h3.symm
    rw [List.getD_eq_getElem?_getD, h2] at h1
    exact h1.symm
   rw [hvq] at c0q
   revert A; refine vlx (h:=vld (y_load1 rfl rfl (ag rfl) (by first | assumption | exact St.q c0q B1)) (h:=vla (h:=vW (vS (vR (vlm (h:=vlm (h:=vlm (h:=vl3 (rowq rb1) (h:=?_)))))))))); intro A f
   rcases hr : tryH y.hp cpu z o fl with _ | r
   ·skip
    have hq := pTry_single _ B gz gl hbk y z cpu o fl rhbk (HY.below B0) (owns_below ol B0 (Nat.le_refl _)) el al ah hhz hhl hzl (by have := B0.size; omega) (by have := B0.size; omega) (hT.below B0) hMn hZs hls hcp hcap hf hz h0 (by omega)
    rw [hr] at hq
    refine l_call f rfl rfl rfl (IsCall.mk' (cap := []) rfl rfl rfl) (pl rfl) hq ?_
    clear f A; rintro _ W9 ⟨rfl, hgot⟩; refine ⟨_, rfl, ?_⟩; intro A f
    have hb10 : Below W7.heap.size W7 W9 := by rcases hgot with h | h; (exact h.2); exact absurd rfl h.1
    replace B0 := Below.next B0 hb10; replace hNq := hNq.below hb10; replace rhbk := row_next rhbk hb10; replace rb1 := row_next rb1 hb10
    replace B1 := Below.next B1 hb10
    revert A; refine vlm (h:=vle (h:=vle (h:=vla (h:=vla (h:=vW (vS (vR (vlm (h:=vW (vD (h:=vK (vU (vT (vR (vlA (h:=vlm (h:=vW ?_))))))))))))))))); intro A f
    exact ⟨nz - (k + 1), by omega, k + 1, rfl, by omega, f.sub ⟨rfl, rfl, rfl, rfl, rfl, rfl, trivial⟩, Below.next hBW B1, by rw [← hfirst, hdz, firstH_none hr]⟩
   skip
   have hq := pTry_single _ B gz gl hbk y z cpu o fl rhbk (HY.below B0) (owns_below ol B0 (Nat.le_refl _)) el al ah hhz hhl hzl (by have := B0.size; omega) (by have := B0.size; omega) (hT.below B0) hMn hZs hls hcp hcap hf hz h0 (by omega)
   rw [hr] at hq
   refine l_call f rfl rfl rfl (IsCall.mk' (cap := []) rfl rfl rfl) (pl rfl) hq ?_
   clear f A; rintro _ W11 ⟨rfl, hgot⟩; refine ⟨_, rfl, ?_⟩; intro A f
   replace hgot := hgot.pre B0
   revert A; refine vlm (h:=vle (h:=vle (h:=vla (h:=vla (h:=vW (vS (vR (vlm (h:=vW (vC (h:=vS (vR (vlm (h:=vla (h:=vla (h:=vW (vE (vG (vF (vF (vG (vF ?_)))))))))))))))))))))); intro A f
   refine x_ret2 f rfl rfl rfl ?_
   have hfr : findH y.hp cpu o fl = some r := by rw [← hfirst, hdz, firstH_some hr]
   rw [hfr]
   exact ⟨rfl, hgot⟩
  intro c8
  refine vW (vS (vD (h:=vX (vH (vH (vI (vT (vS (vR (vla (h:=vla (h:=vW (vE ?_))))))))))))); intro A f
  refine x_ret2 f rfl rfl rfl ?_
  have hfr : findH y.hp cpu o fl = none := by rw [← hfirst, List.drop_eq_nil_of_le (by omega)]; rfl
  rw [hfr]
  exact ⟨rfl, .inl ⟨rfl, B0⟩⟩
 intro c4
 refine vW (vD (h:=vK (vT (vS (vS (vR (vl3 (rowq rb1) (h:=?_)))))))); intro A f
 refine l_call f rfl rfl rfl (IsCall.mk' (cap := []) rfl rfl rfl) (pl rfl) (rqZones_c _ cpu o fl hf) ?_
 clear f A; rintro _ W13 ⟨gq, rfl, hNq, hgq, hb14⟩; refine ⟨_, rfl, ?_⟩; intro A f
 replace B0 := Below.next B0 hb14; replace rhbk := row_next rhbk hb14; replace rb1 := row_next rb1 hb14
 obtain ⟨nz, hnz⟩ : ∃ n, (zonesF fl).length = n := ⟨_, rfl⟩
 have hnz2 : nz ≤ 2 := by rw [← hnz]; unfold zonesF; split <;> simp
 rw [hnz] at f hNq
 revert A; refine vlz (h:=vlm (h:=vW (vB ?_))); intro A f
 refine x_loop (fun n A W => ∃ (k : Nat), n = nz - k ∧ k ≤ nz ∧ Fr A 32 [(0, .pointer (some ⟨hbk, 0, none⟩)), (3, .pointer (some ⟨b1, 0, none⟩)), (6, .func (.func 64) #[] #[]), (15, .slice (some ⟨gq, 0, none⟩) nz nz), (16, .int .i64 (nz : Nat)), (17, .int .i64 (k : Nat))] ∧ Below W13.heap.size W13 W ∧ firstH y.hp cpu o fl ((zonesF fl).drop k) = findH y.hp cpu o fl) (n0 := nz) (⟨0, rfl, by omega, f.sub ⟨rfl, rfl, rfl, rfl, rfl, rfl, trivial⟩, Below.refl _ _, (findH_eq _ _ _ _).symm⟩) ?_
 clear f A
 rintro n A W15 ⟨k, hn, hk, f, hBW, hfirst⟩
 replace B0 := Below.next B0 hBW; replace hNq := hNq.below hBW; replace rhbk := row_next rhbk hBW; replace rb1 := row_next rb1 hBW
 revert A; refine vS (vR (vlb (y_lss rfl rfl rfl) (h:=?_) (g:=?_)))
 ·intro c16
  refine vW (vS (vC (h:=vK (vT (vS (vB (vS (vR ?_))))))))
  have B1 := Below.refl W15.heap.size W15
  obtain ⟨z, hz, hdz⟩ := zonesF_at fl (k := k) (by omega)
  obtain ⟨gq', oq, vq, haq, c0q, hXq⟩ := hNq.at_.at k (by have := hNq.len; omega)
  replace c0q := St.of c0q
  intro A f
  simp only [Option.some.injEq, Addr.mk.injEq, and_true] at haq; obtain ⟨rfl, rfl⟩ := haq
  rw [show 0 + k = 0 + k * 1 by omega] at c0q
  have hvq : vq = (z : Nat) := by
   have h1 := hXq.out
   have h2 : (zonesF fl)[k]? = some (z : Int) := by have h3 := List.getElem?_drop (xs := zonesF fl) (i := k) (j := 0); rw [hdz] at h3; simpa using h3.symm
   rw [List.getD_eq_getElem?_getD, h2] at h1
   exact h1.symm
  rw [hvq] at c0q
  revert A; refine vlx (h:=vld (y_load1 rfl rfl (ag rfl) (by first | assumption | exact St.q c0q B1)) (h:=vla (h:=vW (vS (vR (vlm (h:=vlm (h:=vlm (h:=vl3 (rowq rb1) (h:=?_)))))))))); intro A f
  rcases hr : tryH y.hp cpu z o fl with _ | r
  ·skip
   have hq := pTry_take _ B gz gl hbk y z cpu o fl rhbk (HY.below B0) hhz (hT.below B0) hMn hZs hf hz ho (by omega)
   rw [hr] at hq
   refine l_call f rfl rfl rfl (IsCall.mk' (cap := []) rfl rfl rfl) (pl rfl) hq ?_
   clear f A; rintro _ W17 ⟨rfl, hgot⟩; refine ⟨_, rfl, ?_⟩; intro A f
   have hb18 : Below W15.heap.size W15 W17 := by rcases hgot with h | h; (exact h.2); exact absurd rfl h.1
   replace B0 := Below.next B0 hb18; replace hNq := hNq.below hb18; replace rhbk := row_next rhbk hb18; replace rb1 := row_next rb1 hb18
   replace B1 := Below.next B1 hb18
   revert A; refine vlm (h:=vle (h:=vle (h:=vla (h:=vla (h:=vW (vS (vR (vlm (h:=vW (vD (h:=vK (vU (vT (vR (vlA (h:=vlm (h:=vW ?_))))))))))))))))); intro A f
   exact ⟨nz - (k + 1), by omega, k + 1, rfl, by omega, f.sub ⟨rfl, rfl, rfl, rfl, rfl, rfl, trivial⟩, Below.next hBW B1, by rw [← hfirst, hdz, firstH_none hr]⟩
  skip
  have hq := pTry_take _ B gz gl hbk y z cpu o fl rhbk (HY.below B0) hhz (hT.below B0) hMn hZs hf hz ho (by omega)
  rw [hr] at hq
  refine l_call f rfl rfl rfl (IsCall.mk' (cap := []) rfl rfl rfl) (pl rfl) hq ?_
  clear f A; rintro _ W19 ⟨rfl, hgot⟩; refine ⟨_, rfl, ?_⟩; intro A f
  replace hgot := hgot.pre B0
  revert A; refine vlm (h:=vle (h:=vle (h:=vla (h:=vla (h:=vW (vS (vR (vlm (h:=vW (vC (h:=vS (vR (vlm (h:=vla (h:=vla (h:=vW (vE (vG (vF (vF (vG (vF ?_)))))))))))))))))))))); intro A f
  refine x_ret2 f rfl rfl rfl ?_
  have hfr : findH y.hp cpu o fl = some r := by rw [← hfirst, hdz, firstH_some hr]
  rw [hfr]
  exact ⟨rfl, hgot⟩
 intro c16
 refine vW (vS (vD (h:=vX (vH (vH (vI (vT (vS (vR (vla (h:=vla (h:=vW (vE ?_))))))))))))); intro A f
 refine x_ret2 f rfl rfl rfl ?_
 have hfr : findH y.hp cpu o fl = none := by rw [← hfirst, List.drop_eq_nil_of_le (by omega)]; rfl
 rw [hfr]
 exact ⟨rfl, .inl ⟨rfl, B0⟩⟩
theorem bIns_nil (w : World) (base gv : Nat) (b : Bk) (hbs : base ≤ w.heap.size) (hv : w.heap[gv]? = some (.cells #[.int .i64 b.a, .int .i64 b.o, .int .i64 b.t] 40 (0, 0))) :
    Calls Tryz.prog 68 #[.slice none 0 0, .int .i64 0, .slice (some ⟨gv, 0, none⟩) 1 1] w fun e w' =>
     ∃ g' cap', e = .returned (.slice (some ⟨g', 0, none⟩) 1 cap') ∧ w'.ownsRow base 40 3 (.slice (some ⟨g', 0, none⟩) 1 cap') 1 (bvals [b]) ∧ w.heap.size ≤ g' ∧ Below w.heap.size w w' := by
 obtain ⟨i1, hj, hy0, hy1, hy2⟩ := info_parts info_block
 have hvc : ∀ j v, ([.int .i64 b.a, .int .i64 b.o, .int .i64 b.t] : List Value)[j]? = some v → w.cell? ((⟨gv, 0, none⟩ : Addr).add j) = some v := by
  intro j v hjv
  rw [add_at, Nat.zero_add]
  simp only [World.cell?, hv]
  simpa using hjv
 have hv1 : ∀ u ∈ ([.int .i64 b.a, .int .i64 b.o, .int .i64 b.t] : List Value), u.oneCell' = true := ints_oneCell .i64 [_, _, _]
 obtain ⟨vs, hvs⟩ : ∃ vs : List Value, [.int .i64 b.a, .int .i64 b.o, .int .i64 b.t] = vs := ⟨_, rfl⟩
 have hvl : vs.length = 1 * 3 := by rw [← hvs]; rfl
 have hc4 : Hid (bvals [b] = vs) := by show _ = _; rw [← hvs]; rfl
 rw [hvs] at hvc hv1
 clear hvs hv
 obtain ⟨v', w1, hrun, hown, hgrow, _⟩ := run_append_own (P := Tryz.prog) w w.heap.size 32 32 40 i1 (.agg #[.int .i64 0, .int .i64 0, .int .i64 0]) 3 24 Tryz.underlying32 hj hy0 hy1 hy2 rfl (by decide) (.slice none 0 0) 0 [] (World.ownsRow_nil _ _ _ _) ⟨gv, 0, none⟩ 1 1 vs hvl hvc hv1 (by unfold maxLen; omega) (by omega) (Nat.le_refl _)
 rw [List.nil_append, Nat.zero_add] at hown
 have hb' : Below w.heap.size w w1 := (Below.refl _ _).grown hgrow (Nat.le_refl _) (by simp [Value.ownBlock])
 have hsh : ∃ g' cap', v' = .slice (some ⟨g', 0, none⟩) 1 cap' ∧ w.heap.size ≤ g' := by
  rcases hown.2 with ⟨e1, e2⟩ | ⟨g, cap', cur, e1, hB, _⟩
  ·cases e2
  exact ⟨g, cap', e1, hB⟩
 obtain ⟨g', cap', rfl, hg'⟩ := hsh
 replace hown := owns_weaken hown hbs
 have HR : Hid _ := hrun
 clear hrun hgrow
 go_enter Tryz.func68, Tryz.ntmps68
 go_wp2_with (at_builtin; refine Lib.wpList_append_run _ rfl (.tmp 23) (.tmp 24) 32 32 rfl _ _ rfl rfl _ _ HR.out ?_)
 all_goals
  go_ret
  exact ⟨g', cap', rfl, by rw [hc4.out]; exact hown, hg', hb'⟩
theorem bIns_all (w : World) (base n cap i gv : Nat) (lo : Option Addr) (l : List Bk) (b : Bk) (hi : i ≤ n) (hN : n ≤ 300) (hbs : base ≤ w.heap.size) (own : w.ownsRow base 40 3 (.slice lo n cap) n (bvals l)) (hv : w.heap[gv]? = some (.cells #[.int .i64 b.a, .int .i64 b.o, .int .i64 b.t] 40 (0, 0))) (hne : ∀ a, lo = some a → gv ≠ a.block) :
    Calls Tryz.prog 68 #[.slice lo n cap, .int .i64 i, .slice (some ⟨gv, 0, none⟩) 1 1] w fun e w' =>
     ∃ g' cap', e = .returned (.slice (some ⟨g', 0, none⟩) (n + 1 : Nat) cap') ∧ w'.ownsRow base 40 3 (.slice (some ⟨g', 0, none⟩) (n + 1) cap') (n + 1) (bvals (insB l i b)) ∧ WrL lo g' w w' := by
 cases lo with
 | none =>
  rcases own.2 with ⟨e1, e2⟩ | ⟨g, cap', cur, e1, _⟩
  ·simp only [Value.slice.injEq, true_and] at e1
   obtain ⟨rfl, rfl⟩ := e1
   have hl : l = [] := List.eq_nil_of_length_eq_zero (by have := bowns_len own; omega)
   subst hl
   obtain rfl : i = 0 := by omega
   refine (bIns_nil w base gv b hbs hv).mono ?_
   rintro e w' ⟨g', cap', rfl, h1, h2, h3⟩
   exact ⟨g', cap', rfl, h1, .inr ⟨rfl, h3, h2⟩⟩
  cases e1
 | some a =>
  obtain ⟨g, rfl⟩ : ∃ g, a = ⟨g, 0, none⟩ := by
   rcases own.2 with ⟨e1, _⟩ | ⟨g, cap', cur, e1, _⟩
   ·cases e1
   simp only [Value.slice.injEq, Option.some.injEq] at e1
   exact ⟨g, e1.1⟩
  refine (bIns_any w base g n cap i gv l b hi hN own hv (hne _ rfl)).mono ?_
  rintro e w' ⟨g', cap', rfl, h1, h2, h3⟩
  exact ⟨g', cap', rfl, h1, .inl ⟨g, rfl, h2, h3⟩⟩
theorem HOwn.hz {w : World} {B gz gl gv : Nat} {y : Hx} (h : HOwn w B gz gl gv y) : HZ w B gz y :=
 ⟨h.oz, h.ez, h.at_, ⟨fun z hz _ a ha => ((h.zoff z hz).1 a ha).1, fun z hz _ a ha => ((h.zoff z hz).2.1 a ha).1, fun _ a ha => (h.moff a ha).1, fun _ a ha => by rw [h.el a ha]; exact Ne.symm h.zl, fun l hl _ a ha => ((h.loff l hl).1 a ha).1, fun _ a ha => by rw [h.ev a ha]; exact Ne.symm h.zv⟩, h.gzB⟩
theorem HOwn.away {w : World} {B gz gl gv b : Nat} {y : Hx} (h : HOwn w B gz gl gv y) (hb : b < B) : Away b y :=
 ⟨fun z hz _ a ha => (by have := (h.zoff z hz).2.2.1 a ha; omega), fun z hz _ a ha => (by have := (h.zoff z hz).2.2.2 a ha; omega), fun _ a ha => (by have := h.mfresh a ha; omega), fun _ a ha => (by rw [h.el a ha]; have := h.glB; omega), fun l hl _ a ha => (by have := (h.loff l hl).2.1 a ha; omega), fun _ a ha => (by rw [h.ev a ha]; have := h.gvB; omega)⟩
theorem at_butA {w w' : World} {b : Nat} {y : Hx} (h : y.At w) (hb : But b w w') (a : Away b y) (z : ∀ c, y.zo = some c → c.block ≠ b) : y.At w' := by
 refine ⟨zons_but h.zones hb (fun _ => z) a.f a.t, nums_but h.mins hb a.m, ⟨h.lists.len, h.lists.reach, ?_, fun l hl => nums_but (h.lists.at_ l hl) hb (a.p l hl)⟩, blks_but h.live hb a.v⟩
 by_cases e : 0 < y.ls.length
 ·exact h.lists.cells.but hb (a.l e)
 intro i hi; rw [List.length_map] at hi; omega
theorem Ex.belowB {P : Nat → Prop} {B : Nat} {w w' : World} (h : Ex P w w') (hP : ∀ k, P k → B ≤ k) (hB : B ≤ w.heap.size) : Below B w w' :=
 ⟨h.os, h.tape, h.output, h.size, fun k hk => h.block k (by omega) (fun hp => by have := hP k hp; omega)⟩
theorem HOwn.below {w w' : World} {B gz gl gv : Nat} {y : Hx} (h : HOwn w B gz gl gv y) (hb : Below w.heap.size w w') : HOwn w' B gz gl gv y :=
 ⟨owns_below h.oz hb (Nat.le_refl _), owns_below h.ol hb (Nat.le_refl _), owns_below h.ov hb (Nat.le_refl _), h.ez, h.el, h.ev, h.at_.below hb, h.zl, h.zv, h.lv, h.zoff, h.loff, h.moff, h.mfresh, h.gzB, h.glB, h.gvB⟩
theorem HOwn.awayGl {w : World} {B gz gl gv : Nat} {y : Hx} (h : HOwn w B gz gl gv y) : AwayL gl y :=
 ⟨fun _ a ha => by rw [h.ez] at ha; cases ha; exact h.zl, fun z hz _ a ha => ((h.zoff z hz).1 a ha).2.1, fun z hz _ a ha => ((h.zoff z hz).2.1 a ha).2.1, fun _ a ha => (h.moff a ha).2.1, fun l hl _ a ha => ((h.loff l hl).1 a ha).2.1, fun _ a ha => by rw [h.ev a ha]; exact Ne.symm h.lv⟩
theorem HOwn.awayLow {w : World} {B gz gl gv b : Nat} {y : Hx} (h : HOwn w B gz gl gv y) (hb : b < B) : AwayL b y :=
 ⟨fun _ a ha => by rw [h.ez] at ha; cases ha; have := h.gzB; dsimp only; omega, fun z hz _ a ha => by have := (h.zoff z hz).2.2.1 a ha; omega, fun z hz _ a ha => by have := (h.zoff z hz).2.2.2 a ha; omega, fun _ a ha => by have := h.mfresh a ha; omega, fun l hl _ a ha => by have := (h.loff l hl).2.1 a ha; omega, fun _ a ha => by rw [h.ev a ha]; have := h.gvB; omega⟩
theorem HOwn.rowL {w : World} {B gz gl gv c : Nat} {y : Hx} (h : HOwn w B gz gl gv y) (hc : c < B) (hw : B ≤ w.heap.size) :
    ∃ g, (∀ a, y.lo = some a → a.block = g) ∧ AwayL g y ∧ gz ≠ g ∧ g < w.heap.size ∧ ((g = gl ∧ ∃ a, y.lo = some a) ∨ g = c) := by
 cases e : y.lo with
 | none => exact ⟨c, (fun a ha => (by cases ha)), h.awayLow hc, (by have := h.gzB; omega), (by omega), .inr rfl⟩
 | some a =>
  have := (owns_blk h.ol a e).2.1
  exact ⟨gl, fun b hb => by rw [← e] at hb; exact h.el b hb, h.awayGl, h.zl, by rw [← h.el a e]; exact this, .inl ⟨rfl, a, rfl⟩⟩
theorem live_few {H : Hp} (h : LvsOk H.live) : H.live.length ≤ 256 := by
 have key : ∀ i, i < H.live.length → (i : Int) ≤ (H.live.getD i .zero).a := by
  intro i
  induction i with
  | zero => intro hi; exact (h.ok 0 hi).a.1
  | succ i ih =>
   intro hi
   have g := ih (by omega)
   have o := h.ord (i + 1) (by omega) hi
   rw [show i + 1 - 1 = i by omega] at o
   omega
 by_cases e : H.live.length ≤ 256
 ·exact e
 have k := key 256 (by omega)
 have m := (h.ok 256 (by omega)).a
 omega
structure HRestV (w : World) (y : Hx) : Prop where
 zones : Zons w y.zo y.zn y.zs
 mins : Nums w y.mo y.mn y.mins
 lists : Lsts w y.lo y.ln y.ls
theorem HRestV.of {w : World} {y : Hx} (h : y.At w) : HRestV w y := ⟨h.zones, h.mins, h.lists⟩
theorem HRestV.below {w w' : World} {y : Hx} (h : HRestV w y) (hb : Below w.heap.size w w') : HRestV w' y := ⟨h.zones.below hb, h.mins.below hb, h.lists.below hb⟩
theorem HRestV.but {w w' : World} {b : Nat} {y : Hx} (h : HRestV w y) (hb : But b w w') (a : AwayP b y) (z : ∀ c, y.zo = some c → c.block ≠ b) : HRestV w' y := by
 refine ⟨zons_but h.zones hb (fun _ => z) a.f a.t, nums_but h.mins hb a.m, ⟨h.lists.len, h.lists.reach, ?_, fun l hl => nums_but (h.lists.at_ l hl) hb (a.p l hl)⟩⟩
 by_cases e : 0 < y.ls.length
 ·exact h.lists.cells.but hb (a.l e)
 intro i hi; rw [List.length_map] at hi; omega
def Kit.Hx.withB (y : Hx) (l : List Bk) (vo : Option Addr) (vn vc : Nat) : Hx := { y with live := l, vo := vo, vn := vn, vc := vc }
theorem HRestV.at_ {w : World} {y : Hx} (h : HRestV w y) {B : Nat} {l : List Bk} {vo : Option Addr} {vn vc : Nat} (ov : w.ownsRow B 40 3 (.slice vo vn vc) vn (bvals l)) (hr : vn * 24 ≤ 140737488351232) : (y.withB l vo vn vc).At w :=
 ⟨h.zones, h.mins, h.lists, blks_own ov hr⟩
theorem bs_blk1 (a b c : Value) (w : World) : (Instr.buildSlice 32 1 #[(0, .agg #[a, b, c])]).run Tryz.prog w = .ok (.slice (some ⟨w.heap.size, 0, none⟩) 1 1) (w.alloc (.cells #[a, b, c] 40)) := by
 simp [go_sem]
theorem pAddLiveF_c (w : World) (b : Bk) (g : Nat) (p : Int) (hq : St w ⟨g, 0, none⟩ (.int .i64 p)) :
    Calls Tryz.prog 67 #[.agg #[.int .i64 b.a, .int .i64 b.o, .int .i64 b.t], .pointer (some ⟨g, 0, none⟩)] w fun e w' => e = .returned (.bool (decide (b.a > p))) ∧ Below w.heap.size w w' := by
 have B0 := Below.refl w.heap.size w
 refine sx_enter (args := [_, _]) 9 Tryz.func67 rfl rfl rfl ?_
 refine vS (vR ?_); intro A f
 refine l_box f rfl rfl rfl rfl rfl ?_; clear f A; intro b1 W2 eb1 hb3 rb1 A f; dsimp only [Value.cells] at rb1
 have z_B0_b1 := B0.size; rw [eb1] at z_B0_b1
 replace B0 := Below.next B0 hb3
 revert A; refine vla (h:=vW (vS (vR (vlf (h:=vl1 (rowq rb1) (h:=vlf (h:=vld (y_load1 rfl rfl (ag rfl) (St.q hq B0)) (h:=vld (y_gtr rfl rfl rfl) (h:=vla (h:=vW (vE ?_))))))))))); intro A f
 refine x_ret1 f rfl rfl ?_
 exact ⟨rfl, B0⟩
theorem liveIdx (w : World) (vo : Option Addr) (vn vc g : Nat) (l : List Bk) (p : Int) (hb : Blks w vo vn l) (hq : St w ⟨g, 0, none⟩ (.int .i64 p)) :
    Calls Tryz.prog 39 #[.slice vo vn vc, .func (.func 67) #[] #[.pointer (some ⟨g, 0, none⟩)]] w fun e w' => FoundAt e l (fun b => decide (b.a > p)) ∧ Below w.heap.size w w' :=
 bIndex_any w 67 #[.pointer (some ⟨g, 0, none⟩)] vo vn vc l _ hb (fun args W => pl rfl args W) (fun i _ W hW => pAddLiveF_c W (l.getD i .zero) g p (fun wx hx => hq wx (Below.next hW hx)))
theorem live_at {e : Ending} {l : List Bk} {b : Bk} (h : FoundAt e l (fun x => decide (x.a > b.a))) : ∃ i : Nat, i ≤ l.length ∧ addB l b = insB l i b ∧ ((i < l.length ∧ e = .returned (.int .i64 (i : Nat))) ∨ (i = l.length ∧ e = .returned (.int .i64 (-1)))) := by
 rcases h with ⟨k, hk, rfl, h1, h2⟩ | ⟨rfl, h1⟩
 ·exact ⟨k, by omega, addB_at (by omega) (fun j hj => of_decide_eq_false (h2 j hj)) (fun _ => of_decide_eq_true h1), .inl ⟨hk, rfl⟩⟩
 exact ⟨l.length, Nat.le_refl _, addB_at (Nat.le_refl _) (fun j hj => of_decide_eq_false (h1 j hj)) (fun h => absurd h (Nat.lt_irrefl _)), .inr ⟨rfl, rfl⟩⟩
theorem pAddLive_c (w : World) (B gv hbk : Nat) (y : Hx) (b : Bk) (rhbk : w.heap[hbk]? = some (.cells #[.slice y.zo y.zn y.zc, .slice y.mo y.mn y.mc, .int .i64 y.cpus, .slice y.lo y.ln y.lc, .slice y.vo y.vn y.vc] 34 (0, 0))) (hy : y.At w) (ov : w.ownsRow B 40 3 (.slice y.vo y.vn y.vc) y.vn (bvals y.live)) (ev : ∀ a, y.vo = some a → a.block = gv) (awg : AwayP gv y) (awh : AwayP hbk y) (hzv : ∀ a, y.zo = some a → a.block ≠ gv) (hzh : ∀ a, y.zo = some a → a.block ≠ hbk) (hhv : hbk ≠ gv) (hvn : y.vn ≤ 256) (hgv : gv < w.heap.size) (hB : B ≤ w.heap.size) :
    Calls Tryz.prog 47 #[.pointer (some ⟨hbk, 0, none⟩), .agg #[.int .i64 b.a, .int .i64 b.o, .int .i64 b.t]] w fun e w' => e = .returned (.tuple #[]) ∧ ∃ vo vc, w'.heap[hbk]? = some (.cells #[.slice y.zo y.zn y.zc, .slice y.mo y.mn y.mc, .int .i64 y.cpus, .slice y.lo y.ln y.lc, .slice vo (y.vn + 1 : Nat) vc] 34 (0, 0)) ∧ (y.withB (addB y.live b) vo (y.vn + 1) vc).At w' ∧ Bu2 hbk gv w w' ∧ (∀ a, vo = some a → a.block = gv ∨ w.heap.size ≤ a.block) := by
 have hu := Bu2.refl hbk gv w
 have hr := HRestV.of hy
 have hLv := hy.live
 have hll := hy.live.len
 have ov0 := ov
 have hlw := row_lt rhbk
 refine sx_enter (args := [_, _]) 29 Tryz.func47 rfl rfl rfl ?_
 refine vS (vR ?_); intro A f
 refine l_box f rfl rfl rfl rfl rfl ?_; clear f A; intro b1 W2 eb1 hb3 rb1 A f; dsimp only [Value.cells] at rb1
 have o_hbk_b1 : hbk < b1 := by have := row_lt rhbk; omega
 replace hu := hu.then hb3; replace hr := hr.below hb3; replace rhbk := row_next rhbk hb3; replace ov := owns_below ov hb3 (Nat.le_refl _); replace hLv := hLv.below hb3
 revert A; refine vW (vS (vR (vlm (h:=vli (h:=vlf (h:=vl1 (rowq rhbk) (h:=vld (y_func rfl rfl) (h:=?_)))))))); intro A f
 refine l_call f rfl rfl rfl (IsCall.mk' (cap := []) rfl rfl rfl) (pl rfl) (liveIdx _ y.vo y.vn y.vc b1 y.live b.a hLv (St.of (by rw [cell_of_row _ _ _ _ _ _ rb1]; rfl))) ?_
 clear f A; rintro e W4 ⟨hfa, hb5⟩
 obtain ⟨i, hi, hadd, hcase⟩ := live_at hfa
 rcases hcase with ⟨hil, rfl⟩ | ⟨hil, rfl⟩
 ·skip
  refine ⟨_, rfl, ?_⟩; intro A f
  replace hu := hu.then hb5; replace hr := hr.below hb5; replace rhbk := row_next rhbk hb5; replace rb1 := row_next rb1 hb5; replace ov := owns_below ov hb5 (Nat.le_refl _); replace hLv := hLv.below hb5
  revert A; refine vla (h:=vW (vS (vS (vR (vlm (h:=vlb (y_lss rfl rfl rfl) (h:=?_) (g:=?_)))))))
  ·intro c6; exfalso; omega
  intro c6
  refine vW (vD (h:=vK (vT ?_)))
  have HSh : ∀ wx : World, (fun (wx : World) => wx.heap[hbk]? = some (.cells #[.slice y.zo y.zn y.zc, .slice y.mo y.mn y.mc, .int .i64 y.cpus, .slice y.lo y.ln y.lc, .slice y.vo y.vn y.vc] 34 (0, 0)) ∧ wx.heap[b1]? = some (.cells #[.int .i64 b.a, .int .i64 b.o, .int .i64 b.t] 40 (0, 0))) wx → wx.heap[hbk]? = some (.cells #[.slice y.zo y.zn y.zc, .slice y.mo y.mn y.mc, .int .i64 y.cpus, .slice y.lo y.ln y.lc, .slice y.vo y.vn y.vc] 34 (0, 0)) := fun wx h => h.1
  have HS4 : ∀ wx : World, (fun (wx : World) => wx.heap[hbk]? = some (.cells #[.slice y.zo y.zn y.zc, .slice y.mo y.mn y.mc, .int .i64 y.cpus, .slice y.lo y.ln y.lc, .slice y.vo y.vn y.vc] 34 (0, 0)) ∧ wx.heap[b1]? = some (.cells #[.int .i64 b.a, .int .i64 b.o, .int .i64 b.t] 40 (0, 0))) wx → wx.heap[b1]? = some (.cells #[.int .i64 b.a, .int .i64 b.o, .int .i64 b.t] 40 (0, 0)) := fun wx h => h.2
  intro A f
  refine sx_heldl (n := 11) (fun (wx : World) => wx.heap[hbk]? = some (.cells #[.slice y.zo y.zn y.zc, .slice y.mo y.mn y.mc, .int .i64 y.cpus, .slice y.lo y.ln y.lc, .slice y.vo y.vn y.vc] 34 (0, 0)) ∧ wx.heap[b1]? = some (.cells #[.int .i64 b.a, .int .i64 b.o, .int .i64 b.t] 40 (0, 0))) [7, 8] (by kernel_rfl) (by kernel_rfl) rfl (by kernel_rfl) (blind_body) (⟨row_next rhbk ((Below.refl _ _).drew), row_next rb1 ((Below.refl _ _).drew)⟩) ?_
  dsimp only [List.take]
  generalize hWd : ({ W4 with drawn := W4.drawn + 1 } : World) = W7
  have hdr := drawn_b hWd
  clear hWd
  replace hu := hu.then hdr; replace hr := hr.below hdr; replace rhbk := row_next rhbk hdr; replace rb1 := row_next rb1 hdr; replace ov := owns_below ov hdr (Nat.le_refl _); replace hLv := hLv.below hdr
  revert A; refine vhm (h:=vhm (h:=vhi (h:=vhf (h:=vh1 HSh (h:=vhm (h:=vh3 HS4 (h:=?_)))))))
  obtain ⟨gw, hgw⟩ : ∃ g, g = W7.heap.size := ⟨_, rfl⟩
  have lhb := row_lt rhbk
  have lb3 := row_lt rb1
  have lou := hu.size
  intro A f
  refine h_opR (R := fun v W => v = .slice (some ⟨gw, 0, none⟩) 1 1 ∧ Below W7.heap.size W7 W ∧ W.heap[gw]? = some (.cells #[.int .i64 b.a, .int .i64 b.o, .int .i64 b.t] 40 (0, 0))) f rfl rfl rfl rfl ⟨_, _, bs_exec f rfl rfl (bs_blk1 _ _ _ _), by rw [hgw], (Below.refl _ _).alloc (Nat.le_refl _) _, by rw [hgw]; show (Array.push _ _)[_]? = _; rw [Array.getElem?_push, if_pos rfl]⟩ ?_
  clear f A
  rintro _ W8 ⟨rfl, hb9, rgw⟩
  refine ⟨⟨row_next rhbk hb9, row_next rb1 hb9⟩, ?_⟩
  intro A f
  replace hu := hu.then hb9; replace hr := hr.below hb9; replace rhbk := row_next rhbk hb9; replace rb1 := row_next rb1 hb9; replace ov := owns_below ov hb9 (Nat.le_refl _); replace hLv := hLv.below hb9
  refine h_call f rfl rfl rfl rfl (IsCall.mk' (cap := []) rfl rfl rfl) (pl rfl) (bIns_all _ B y.vn y.vc i gw y.vo y.live b (by omega) (by omega) (by have := hu.size; omega) ov rgw (fun a ha => by have := (owns_blk ov0 a ha).2.1; have := hu.size; omega)) ?_
  clear f A
  rintro _ W10 ⟨g2, c2, rfl, ov2, hwr⟩
  have hug := hu.size
  have hb3g : b1 ≠ gv := by omega
  have hrow : But gv W8 W10 := wrL_but hwr ev
  have hg2 : g2 = gv ∨ w.heap.size ≤ g2 := wrL_where hwr ev (by omega)
  have hg3 : g2 ≠ hbk := by rcases hg2 with e | e <;> omega
  replace rhbk := But.row hrow rhbk hhv
  replace rb1 := But.row hrow rb1 hb3g
  replace hu := hu.trans (Bu2.of_but_z hrow)
  replace hr := hr.but hrow awg (fun a ha => hzv a ha)
  clear ov
  refine ⟨_, rfl, ⟨rhbk, rb1⟩, ?_⟩
  refine vhi (h:=vhf (h:=vM ?_)); intro A f
  show Oper.wp _ _ _ _ _ _
  refine g_store f rfl rfl rfl rfl rhbk (sz rfl) rfl (Nat.le_of_ble_eq_true rfl) rfl ?_
  clear rhbk
  intro W11 hb12 rhbk
  dsimp only [setL, over, Value.cells] at rhbk
  replace hu := hu.trans (Bu2.of_but_g hb12)
  replace hr := hr.but hb12 awh (fun a ha => hzh a ha)
  replace ov2 := owns_butN ov2 hb12 (fun a ha => by cases ha; dsimp only; omega)
  refine x_norm0 f rfl ?_
  refine ⟨rfl, some ⟨g2, 0, none⟩, c2, rhbk, ?_, hu, fun a ha => by cases ha; exact hg2⟩
  rw [hadd]
  exact hr.at_ ov2 (by omega)
 skip
 obtain rfl : i = y.vn := by omega
 refine ⟨_, rfl, ?_⟩; intro A f
 replace hu := hu.then hb5; replace hr := hr.below hb5; replace rhbk := row_next rhbk hb5; replace rb1 := row_next rb1 hb5; replace ov := owns_below ov hb5 (Nat.le_refl _); replace hLv := hLv.below hb5
 revert A; refine vla (h:=vW (vS (vS (vR (vlm (h:=vlb (y_lss rfl rfl rfl) (h:=?_) (g:=?_)))))))
 ·intro c13
  refine vW (vC (h:=vR (vlm (h:=vli (h:=vlf (h:=vl1 (rowq rhbk) (h:=vlz (h:=vla (h:=vW ?_)))))))))
  have HSh : ∀ wx : World, (fun (wx : World) => wx.heap[hbk]? = some (.cells #[.slice y.zo y.zn y.zc, .slice y.mo y.mn y.mc, .int .i64 y.cpus, .slice y.lo y.ln y.lc, .slice y.vo y.vn y.vc] 34 (0, 0)) ∧ wx.heap[b1]? = some (.cells #[.int .i64 b.a, .int .i64 b.o, .int .i64 b.t] 40 (0, 0))) wx → wx.heap[hbk]? = some (.cells #[.slice y.zo y.zn y.zc, .slice y.mo y.mn y.mc, .int .i64 y.cpus, .slice y.lo y.ln y.lc, .slice y.vo y.vn y.vc] 34 (0, 0)) := fun wx h => h.1
  have HS4 : ∀ wx : World, (fun (wx : World) => wx.heap[hbk]? = some (.cells #[.slice y.zo y.zn y.zc, .slice y.mo y.mn y.mc, .int .i64 y.cpus, .slice y.lo y.ln y.lc, .slice y.vo y.vn y.vc] 34 (0, 0)) ∧ wx.heap[b1]? = some (.cells #[.int .i64 b.a, .int .i64 b.o, .int .i64 b.t] 40 (0, 0))) wx → wx.heap[b1]? = some (.cells #[.int .i64 b.a, .int .i64 b.o, .int .i64 b.t] 40 (0, 0)) := fun wx h => h.2
  intro A f
  refine sx_heldl (n := 11) (fun (wx : World) => wx.heap[hbk]? = some (.cells #[.slice y.zo y.zn y.zc, .slice y.mo y.mn y.mc, .int .i64 y.cpus, .slice y.lo y.ln y.lc, .slice y.vo y.vn y.vc] 34 (0, 0)) ∧ wx.heap[b1]? = some (.cells #[.int .i64 b.a, .int .i64 b.o, .int .i64 b.t] 40 (0, 0))) [7, 8] (by kernel_rfl) (by kernel_rfl) rfl (by kernel_rfl) (blind_body) (⟨row_next rhbk ((Below.refl _ _).drew), row_next rb1 ((Below.refl _ _).drew)⟩) ?_
  dsimp only [List.take]
  generalize hWd : ({ W4 with drawn := W4.drawn + 1 } : World) = W14
  have hdr := drawn_b hWd
  clear hWd
  replace hu := hu.then hdr; replace hr := hr.below hdr; replace rhbk := row_next rhbk hdr; replace rb1 := row_next rb1 hdr; replace ov := owns_below ov hdr (Nat.le_refl _); replace hLv := hLv.below hdr
  revert A; refine vhm (h:=vhm (h:=vhi (h:=vhf (h:=vh1 HSh (h:=vhm (h:=vh3 HS4 (h:=?_)))))))
  obtain ⟨gw, hgw⟩ : ∃ g, g = W14.heap.size := ⟨_, rfl⟩
  have lhb := row_lt rhbk
  have lb3 := row_lt rb1
  have lou := hu.size
  intro A f
  refine h_opR (R := fun v W => v = .slice (some ⟨gw, 0, none⟩) 1 1 ∧ Below W14.heap.size W14 W ∧ W.heap[gw]? = some (.cells #[.int .i64 b.a, .int .i64 b.o, .int .i64 b.t] 40 (0, 0))) f rfl rfl rfl rfl ⟨_, _, bs_exec f rfl rfl (bs_blk1 _ _ _ _), by rw [hgw], (Below.refl _ _).alloc (Nat.le_refl _) _, by rw [hgw]; show (Array.push _ _)[_]? = _; rw [Array.getElem?_push, if_pos rfl]⟩ ?_
  clear f A
  rintro _ W15 ⟨rfl, hb16, rgw⟩
  refine ⟨⟨row_next rhbk hb16, row_next rb1 hb16⟩, ?_⟩
  intro A f
  replace hu := hu.then hb16; replace hr := hr.below hb16; replace rhbk := row_next rhbk hb16; replace rb1 := row_next rb1 hb16; replace ov := owns_below ov hb16 (Nat.le_refl _); replace hLv := hLv.below hb16
  refine h_call f rfl rfl rfl rfl (IsCall.mk' (cap := []) rfl rfl rfl) (pl rfl) (bIns_all _ B y.vn y.vc y.vn gw y.vo y.live b (by omega) (by omega) (by have := hu.size; omega) ov rgw (fun a ha => by have := (owns_blk ov0 a ha).2.1; have := hu.size; omega)) ?_
  clear f A
  rintro _ W17 ⟨g2, c2, rfl, ov2, hwr⟩
  have hug := hu.size
  have hb3g : b1 ≠ gv := by omega
  have hrow : But gv W15 W17 := wrL_but hwr ev
  have hg2 : g2 = gv ∨ w.heap.size ≤ g2 := wrL_where hwr ev (by omega)
  have hg3 : g2 ≠ hbk := by rcases hg2 with e | e <;> omega
  replace rhbk := But.row hrow rhbk hhv
  replace rb1 := But.row hrow rb1 hb3g
  replace hu := hu.trans (Bu2.of_but_z hrow)
  replace hr := hr.but hrow awg (fun a ha => hzv a ha)
  clear ov
  refine ⟨_, rfl, ⟨rhbk, rb1⟩, ?_⟩
  refine vhi (h:=vhf (h:=vM ?_)); intro A f
  show Oper.wp _ _ _ _ _ _
  refine g_store f rfl rfl rfl rfl rhbk (sz rfl) rfl (Nat.le_of_ble_eq_true rfl) rfl ?_
  clear rhbk
  intro W18 hb19 rhbk
  dsimp only [setL, over, Value.cells] at rhbk
  replace hu := hu.trans (Bu2.of_but_g hb19)
  replace hr := hr.but hb19 awh (fun a ha => hzh a ha)
  replace ov2 := owns_butN ov2 hb19 (fun a ha => by cases ha; dsimp only; omega)
  refine x_norm0 f rfl ?_
  refine ⟨rfl, some ⟨g2, 0, none⟩, c2, rhbk, ?_, hu, fun a ha => by cases ha; exact hg2⟩
  rw [hadd]
  exact hr.at_ ov2 (by omega)
 intro c13; exfalso; omega
theorem pBack_ok (w : World) (B gz hbk : Nat) (y : Hx) (p o : Int) (rh : w.heap[hbk]? = some (.cells #[.slice y.zo y.zn y.zc, .slice y.mo y.mn y.mc, .int .i64 y.cpus, .slice y.lo y.ln y.lc, .slice y.vo y.vn y.vc] 34 (0, 0))) (HY : HZ w B gz y) (hne : hbk ≠ gz) (hc : CanBack y.hp p o) :
    Calls Tryz.prog 61 #[.pointer (some ⟨hbk, 0, none⟩), .int .i64 p, .int .i64 o] w fun e w' => e = .returned (.int .i64 0) ∧ ∃ z, z.z = backZ (y.zs.getD (zIdx y.hp p) .zero).z p o ∧ HZ w' B gz (y.setZ (zIdx y.hp p) z) ∧ But gz w w' ∧ (∀ b, b < w.heap.size → Away b y → Away b (y.setZ (zIdx y.hp p) z)) := by
 have HY0 := HY.at_
 have hin : zIdx y.hp p < y.zn := by have := zIdx_lt y.hp p; have e : y.hp.zones.length = y.zs.length := (by show (y.zs.map _).length = _; rw [List.length_map]); have := hc.n; have := HY.at_.zones.len; omega
 have hzn : y.zn = 2 := by have e : y.hp.zones.length = y.zs.length := (by show (y.zs.map _).length = _; rw [List.length_map]); have := hc.n; have := HY.at_.zones.len; omega
 have hgz : gz < w.heap.size := HY.lt (by omega)
 have hM := hc.m
 have hA := hc.i
 have hv := hc.v
 rw [hp_zone] at hM hA hv
 have hrl := row_lt rh
 obtain ⟨i, hi⟩ : ∃ i, zIdx y.hp p = i := ⟨_, rfl⟩
 rw [hi] at hin hM hA hv
 have ez := HY.ez
 obtain ⟨gi, oi, zi, foi, fni, fci, toi, tni, tci, hai, c0i, c1i, c2i, c3i, hati, hXi⟩ := HY.at_.zones.at (i) (by omega)
 replace c0i := St.of c0i; replace c1i := St.of c1i; replace c2i := St.of c2i; replace c3i := St.of c3i
 have hXe : (y.zs.getD i .zero).z = zi := by rw [hXi.out]
 rw [ez] at hai; simp only [Option.some.injEq, Addr.mk.injEq, and_true] at hai; obtain ⟨rfl, rfl⟩ := hai
 have B0 := Below.refl w.heap.size w
 refine sx_enter (args := [_, _, _]) 38 Tryz.func61 rfl rfl rfl ?_
 refine vS (vR (vla (h:=vW (vS (vR (vlm (h:=vli (h:=vl5 (rowq rh) (h:=vlm (h:=vlc (by have e := pZoneOf_c _ y p HY.at_ hzn; rw [hi] at e; exact e) (h:=?_))))))))))); intro W2 hb1; replace B0 := Below.next B0 hb1; replace HY := HY.below hb1; replace rh := row_next rh hb1
 refine vla (h:=vW (vS (vR (vlm (h:=vli (h:=vlf (h:=vl1 (rowq rh) (h:=vlm (h:=vlx (h:=vld (y_loadN (vs := [_, _, _, _]) rfl rfl (ag rfl) rfl ⟨(by first | assumption | exact St.q c0i B0 | exact St.q c1i B0 | exact St.q c2i B0 | exact St.q c3i B0), (by first | assumption | exact St.q c0i B0 | exact St.q c1i B0 | exact St.q c2i B0 | exact St.q c3i B0), (by first | assumption | exact St.q c0i B0 | exact St.q c1i B0 | exact St.q c2i B0 | exact St.q c3i B0), (by first | assumption | exact St.q c0i B0 | exact St.q c1i B0 | exact St.q c2i B0 | exact St.q c3i B0), trivial⟩) (h:=vlm (h:=vlm (h:=?_)))))))))))))
 have lz_hbk := row_lt rh
 intro A f
 refine l_call f rfl rfl rfl (IsCall.mk' (cap := []) rfl rfl rfl) (pl rfl) (zBack_ok _ _ _ _ _ _ _ zi p o (hati.below B0) (hXe ▸ hM) (hXe ▸ hA) (hXe ▸ hv)) ?_
 clear f A
 rintro _ W4 ⟨⟨fo2, fn2, fc2, to2, tn2, tc2, rfl, hz2, hf2, ht2⟩, hb3⟩
 refine ⟨_, rfl, ?_⟩
 have hg1 := B0.size
 intro A f
 replace B0 := Below.next B0 hb3; replace HY := HY.below hb3; replace rh := row_next rh hb3
 obtain ⟨Y, hY⟩ : ∃ Y, backZ zi p o = Y := ⟨_, rfl⟩
 rw [hY] at f hz2
 revert A; refine vlm (h:=vle (h:=vle (h:=?_))); intro A f
 refine l_as (z := .agg #[.int .i64 0, .int .i64 0, .slice none 0 0, .slice none 0 0]) f rfl rfl rfl rfl (by kernel_rfl) rfl rfl (fun _ => rfl) (fun _ => rfl) rfl (by intro u hu; simp [Value.cells] at hu; rcases hu with rfl | rfl | rfl | rfl <;> rfl) ?_; clear f A; intro b5 W6 eb5 hb7 rb5 A f
 dsimp only [Value.cells] at rb5
 have hpb5 := hb7
 have o_hbk_b5 : hbk < b5 := by have := row_lt rh; omega
 have z_B0_b5 := B0.size; rw [eb5] at z_B0_b5
 replace B0 := Below.next B0 hb7; replace HY := HY.below hb7; replace hz2 := hz2.below hb7; replace rh := row_next rh hb7
 revert A; refine vla (h:=vW (vS (vS (vR (vlm (h:=vlb (y_neq rfl rfl rfl) (h:=?_) (g:=?_)))))))
 ·intro c8; exfalso; omega
 intro c8
 refine vW (vD (h:=vK (vT (vS ?_))))
 have q_hbk := fun wx (h : But gz W6 wx) => But.row h rh (by omega)
 have q_b5 := fun wx (h : But gz W6 wx) => But.row h rb5 (by omega)
 have hSB : Below w.heap.size w W6 := B0
 intro A f
 refine sx_held (fun wx => But gz W6 wx) [7] (by kernel_rfl) (by kernel_rfl) (blind_then (blind_body)) (But.of_below ((Below.refl _ _).drew)) ?_
 generalize hWd : ({ W6 with drawn := W6.drawn + 1 } : World) = W9
 have hS := but_start gz hWd
 have hdr := drawn_b hWd
 clear hWd
 replace B0 := Below.next B0 hdr; replace HY := HY.below hdr; replace hz2 := hz2.below hdr; replace rh := row_next rh hdr; replace rb5 := row_next rb5 hdr
 revert A; refine vhm (h:=vhi (h:=vhf (h:=vh1 q_hbk (h:=vhm (h:=vh4 q_b5 (h:=vhx (h:=?_)))))))
 have oz := HY.oz
 intro A f
 rw [HY.ez] at oz
 refine h_storeR f rfl rfl rfl rfl rfl rfl (own_set4 oz hin (Zc.q ⟨Y, fo2, fn2, fc2, to2, tn2, tc2⟩) (Zc.one _) (sz rfl)) (fun _ h => hS.trans h.1) ?_
 rintro W10 ⟨hb11, ow⟩
 have HY2 := HY.set (i := i) (z := ⟨Y, fo2, fn2, fc2, to2, tn2, tc2⟩) hz2 (fun a ha e => by have := hf2 a ha; omega) (fun a ha e => by have := ht2 a ha; omega) hb11 (by rw [HY.ez]; exact ow)
 have hSf := hS.trans hb11
 revert A; refine vM (vT (vS (vR (vla (h:=vW (vE ?_)))))); intro A f
 refine x_ret1 f rfl rfl ?_
 exact ⟨rfl, ⟨Y, fo2, fn2, fc2, to2, tn2, tc2⟩, by rw [hi, hXe]; exact hY.symm, by rw [hi]; exact HY2, ((But.of_below hSB).trans hSf), fun (b : Nat) (hb : b < w.heap.size) (ha : Away b y) => Away.setZ (b := b) (z := ⟨Y, fo2, fn2, fc2, to2, tn2, tc2⟩) ha (fun a h => by have := hf2 a h; omega) (fun a h => by have := ht2 a h; omega)⟩
theorem pBackAll_ok (w : World) (B gz hbk : Nat) (y : Hx) (po : Option Addr) (pn pc : Nat) (ps : List Int) (rh : w.heap[hbk]? = some (.cells #[.slice y.zo y.zn y.zc, .slice y.mo y.mn y.mc, .int .i64 y.cpus, .slice y.lo y.ln y.lc, .slice y.vo y.vn y.vc] 34 (0, 0))) (HY : HZ w B gz y) (hne : hbk ≠ gz) (hN : Nums w po pn ps) (hne2 : 0 < ps.length → ∀ a, po = some a → a.block ≠ gz) (hc : CanBacks y.hp ps) :
    Calls Tryz.prog 63 #[.pointer (some ⟨hbk, 0, none⟩), .slice po pn pc] w fun e w' => e = .returned (.int .i64 0) ∧ ∃ zs, (y.withZ zs).hp = backs y.hp ps ∧ HZ w' B gz (y.withZ zs) ∧ But gz w w' ∧ (∀ b, b < w.heap.size → Away b y → Away b (y.withZ zs)) := by
 have nr := hN.reach
 have B0 := Below.refl w.heap.size w
 refine sx_enter (args := [_, _]) 21 Tryz.func63 rfl rfl rfl ?_
 refine vS (vR (vla (h:=vW (vS (vS (vR (vlm (h:=vlz (h:=vlm (h:=vW (vB ?_))))))))))); intro A f
 refine x_loop (fun n A W => ∃ (k : Nat) (zs : List Zc), n = pn - k ∧ k ≤ pn ∧ Fr A 21 [(0, .pointer (some ⟨hbk, 0, none⟩)), (8, .slice po pn pc), (9, .int .i64 (pn : Nat)), (10, .int .i64 (k : Nat))] ∧ HZ W B gz (y.withZ zs) ∧ (y.withZ zs).hp = backs y.hp (ps.take k) ∧ But gz w W ∧ (∀ b, b < w.heap.size → Away b y → Away b (y.withZ zs))) (n0 := pn) (⟨0, y.zs, rfl, Nat.zero_le _, f.sub ⟨rfl, rfl, rfl, rfl, trivial⟩, HY.below B0, rfl, But.of_below B0, fun _ _ h => h⟩) ?_
 clear f A
 clear B0
 rintro n A W1 ⟨k, zs, hn, hk, f, HYk, hhp, hbt, haw⟩
 have BW := Below.refl W1.heap.size W1
 have hNk := nums_but hN hbt hne2
 have rhk := But.row hbt rh hne
 revert A; refine vS (vR (vlb (y_lss rfl rfl rfl) (h:=?_) (g:=?_)))
 ·intro c2
  refine vW (vS (vC (h:=vK (vT (vS (vB (vS (vR ?_))))))))
  obtain ⟨gg, og, vg, hag, c0g, hXg⟩ := hNk.at_.at (k) (by have := hNk.len; omega)
  replace c0g := St.of c0g
  intro A f
  rw [show og + k = og + k * 1 by omega] at c0g
  have hcb : CanBack (y.withZ zs).hp vg 0 := by rw [hhp]; exact canBacks_at hc (by have := hN.len; omega) hXg.out
  revert A; refine vlx (h:=vld (y_load1 rfl rfl (ag rfl) (by first | assumption | exact St.q c0g BW)) (h:=vla (h:=vW (vS (vR (vlm (h:=vlm (h:=?_)))))))); intro A f
  refine l_call f rfl rfl rfl (IsCall.mk' (cap := []) rfl rfl rfl) (pl rfl) (pBack_ok _ B gz hbk (y.withZ zs) vg 0 (row_next rhk BW) (HYk.below BW) hne hcb) ?_
  clear f A
  rintro _ W3 ⟨rfl, zk, hzk, HY2, hb2, haw2⟩
  refine ⟨_, rfl, ?_⟩
  intro A f
  have hbt2 := hbt.trans hb2
  revert A; refine vla (h:=vW (vS (vR (vlm (h:=vlb (y_neq rfl rfl rfl) (h:=?_) (g:=?_))))))
  ·intro c4; exfalso; omega
  intro c4
  refine vW (vD (h:=vK (vU (vT (vR (vlA (h:=vlm (h:=vW ?_)))))))); intro A f
  exact ⟨pn - (k + 1), by omega, k + 1, _, rfl, by omega, f.sub ⟨rfl, rfl, rfl, rfl, trivial⟩, HY2, (setZ_hp hzk).trans (by rw [hhp, backs_take (by have := hN.len; omega) hXg.out]), hbt2, fun b hb h => haw2 b (by have := hbt.size; have := BW.size; omega) (haw b hb h)⟩
 intro c2
 refine vW (vS (vD (h:=vX (vH (vH (vI (vT (vS (vR (vla (h:=vW (vE ?_)))))))))))); intro A f
 refine x_ret1 f rfl rfl ?_
 exact ⟨rfl, zs, by rw [hhp, List.take_of_length_le (by have := hN.len; omega)], HYk, hbt, haw⟩
def pgsOf (y : Hx) (k : Nat) : List Int := (y.ls.take k).flatMap (fun l => l.l.pages)
theorem pgs_succ {y : Hx} {w : World} (h : y.At w) {pgs : Nat → List Int} (hp : pgs = pgsOf y) {k : Nat} (hk : k < y.ln) {c z t : Int} {pages : List Int} {po : Option Addr} {pn pc : Nat} (hX : y.ls.getD k .zero = ⟨⟨c, z, t, pages⟩, po, pn, pc⟩) : pgs k ++ pages = pgs (k + 1) := by
 have hl := h.lists.len
 subst hp
 unfold pgsOf
 rw [List.getD_eq_getElem?_getD, List.getElem?_eq_getElem (by omega)] at hX
 simp only [Option.getD_some] at hX
 rw [List.take_succ_eq_append_getElem (by omega), List.flatMap_append, hX]
 simp
theorem pgs_split {y : Hx} {w : World} (h : y.At w) {pgs : Nat → List Int} (hp : pgs = pgsOf y) {k : Nat} (hk : k < y.ln) {c z t : Int} {pages : List Int} {po : Option Addr} {pn pc : Nat} (hX : y.ls.getD k .zero = ⟨⟨c, z, t, pages⟩, po, pn, pc⟩) :
    y.hp.lists.flatMap (·.pages) = (pgs k ++ pages) ++ (y.ls.drop (k + 1)).flatMap (fun l => l.l.pages) := by
 rw [pgs_succ h hp hk hX]
 subst hp
 unfold pgsOf
 show (y.ls.map (·.l)).flatMap _ = _
 rw [List.flatMap_map, ← List.flatMap_append, List.take_append_drop]
theorem pgs_all {y : Hx} {w : World} (h : y.At w) {pgs : Nat → List Int} (hp : pgs = pgsOf y) {k : Nat} (hk : y.ln ≤ k) : pgs k = y.hp.lists.flatMap (·.pages) := by
 have hl := h.lists.len
 subst hp
 unfold pgsOf
 show _ = (y.ls.map (·.l)).flatMap _
 rw [List.flatMap_map, List.take_of_length_le (by omega)]
def Kit.Hx.noLists (y : Hx) : Hx := { y with ls := [], lo := none, ln := 0, lc := 0 }
theorem Away.noLists {b : Nat} {y : Hx} (h : Away b y) : Away b y.noLists :=
 ⟨h.f, h.t, h.m, fun h0 => absurd h0 (by simp [Kit.Hx.noLists]), fun l hl => (by cases hl), h.v⟩
theorem HZ.noLists {w : World} {B gz : Nat} {y : Hx} (h : HZ w B gz y) : HZ w B gz y.noLists :=
 ⟨h.oz, h.ez, ⟨h.at_.zones, h.at_.mins, Lsts.nil w, h.at_.live⟩, ⟨h.aw.f, h.aw.t, h.aw.m, fun h0 => absurd h0 (by simp [Kit.Hx.noLists]), fun l hl => (by cases hl), h.aw.v⟩, h.gB⟩
theorem pdrain_ok (w : World) (B gz hbk : Nat) (y : Hx) (rh : w.heap[hbk]? = some (.cells #[.slice y.zo y.zn y.zc, .slice y.mo y.mn y.mc, .int .i64 y.cpus, .slice y.lo y.ln y.lc, .slice y.vo y.vn y.vc] 34 (0, 0))) (HY : HZ w B gz y) (hne : hbk ≠ gz) (ha : Away hbk y) (hc : CanBacks y.hp (y.hp.lists.flatMap (·.pages))) :
    Calls Tryz.prog 43 #[.pointer (some ⟨hbk, 0, none⟩)] w fun e w' => e = .returned (.int .i64 0) ∧ ∃ zs, (y.withZ zs).hp = backs y.hp (y.hp.lists.flatMap (·.pages)) ∧ HZ w' B gz (y.withZ zs).noLists ∧ w'.heap[hbk]? = some (.cells #[.slice y.zo y.zn y.zc, .slice y.mo y.mn y.mc, .int .i64 y.cpus, .slice none 0 0, .slice y.vo y.vn y.vc] 34 (0, 0)) ∧ Bu2 gz hbk w w' ∧ (∀ b, b < w.heap.size → Away b y → Away b (y.withZ zs)) := by
 have lr := HY.at_.lists.reach
 obtain ⟨pgs, hpg⟩ : ∃ f, f = pgsOf y := ⟨_, rfl⟩
 have B0 := Below.refl w.heap.size w
 refine sx_enter (args := [_]) 26 Tryz.func43 rfl rfl rfl ?_
 refine vS (vR (vla (h:=vW (vS (vS (vR (vlm (h:=vli (h:=vlf (h:=vl1 (rowq rh) (h:=vlz (h:=vlm (h:=vW (vB ?_))))))))))))))
 have hL0 := HY.at_
 intro A f
 refine x_loop (fun n A W => ∃ (k : Nat) (zs : List Zc), n = y.ln - k ∧ k ≤ y.ln ∧ Fr A 26 [(0, .pointer (some ⟨hbk, 0, none⟩)), (9, .slice y.lo y.ln y.lc), (10, .int .i64 (y.ln : Nat)), (11, .int .i64 (k : Nat))] ∧ HZ W B gz (y.withZ zs) ∧ (y.withZ zs).hp = backs y.hp (pgs k) ∧ But gz w W ∧ (∀ b, b < w.heap.size → Away b y → Away b (y.withZ zs))) (n0 := y.ln) (⟨0, y.zs, rfl, Nat.zero_le _, f.sub ⟨rfl, rfl, rfl, rfl, trivial⟩, HY.below B0, by rw [hpg]; rfl, But.of_below B0, fun _ _ h => h⟩) ?_
 clear f A
 clear B0
 rintro n A W1 ⟨k, zs, hn, hk, f, HYk, hhp, hbt, haw⟩
 have BW := Below.refl W1.heap.size W1
 have rhk := But.row hbt rh hne
 revert A; refine vS (vR (vlb (y_lss rfl rfl rfl) (h:=?_) (g:=?_)))
 ·intro c2
  refine vW (vS (vC (h:=vK (vT (vS (vB (vS (vR ?_))))))))
  obtain ⟨gl, ol, lcl, lzl, ltl, lpl, pol, pnl, pcl, hal, c0l, c1l, c2l, c3l, hatl, hXl⟩ := HYk.at_.lists.at (k) (show k < y.ln by omega)
  replace c0l := St.of c0l; replace c1l := St.of c1l; replace c2l := St.of c2l; replace c3l := St.of c3l
  have hXl2 : y.ls.getD k .zero = ⟨⟨lcl, lzl, ltl, lpl⟩, pol, pnl, pcl⟩ := hXl.out
  have hml : (⟨⟨lcl, lzl, ltl, lpl⟩, pol, pnl, pcl⟩ : Lc) ∈ y.ls := by rw [← hXl2]; exact getD_mem (by have := HY.at_.lists.len; omega)
  have hNe : 0 < lpl.length → ∀ a, pol = some a → a.block ≠ gz := fun h0 a ha => HY.aw.p _ hml h0 a ha
  have hpk : pgs k ++ lpl = pgs (k + 1) := pgs_succ hL0 hpg (by omega) hXl2
  have hcb : CanBacks (y.withZ zs).hp lpl := by
   rw [hhp]
   have e := hc
   rw [pgs_split hL0 hpg (show k < y.ln by omega) hXl2, canBacks_append] at e
   rw [canBacks_append] at e
   exact e.1.2
  refine vlx (h:=vld (y_loadN (vs := [_, _, _, _]) rfl rfl (ag rfl) rfl ⟨(by first | assumption | exact St.q c0l BW | exact St.q c1l BW | exact St.q c2l BW | exact St.q c3l BW), (by first | assumption | exact St.q c0l BW | exact St.q c1l BW | exact St.q c2l BW | exact St.q c3l BW), (by first | assumption | exact St.q c0l BW | exact St.q c1l BW | exact St.q c2l BW | exact St.q c3l BW), (by first | assumption | exact St.q c0l BW | exact St.q c1l BW | exact St.q c2l BW | exact St.q c3l BW), trivial⟩) (h:=?_)); intro A f
  refine l_as (z := .agg #[.int .i64 0, .int .i64 0, .int .i64 0, .slice none 0 0]) f rfl rfl rfl rfl (by kernel_rfl) rfl rfl (fun _ => rfl) (fun _ => rfl) rfl (by intro u hu; simp [Value.cells] at hu; rcases hu with rfl | rfl | rfl | rfl <;> rfl) ?_; clear f A; intro b3 W4 eb3 hb5 rb3 A f
  dsimp only [Value.cells] at rb3
  have hpb3 := hb5
  have o_hbk_b3 : hbk < b3 := by have := row_lt rhk; omega
  have z_BW_b3 := BW.size; rw [eb3] at z_BW_b3
  replace BW := Below.next BW hb5; replace HYk := HYk.below hb5; replace hbt := hbt.gr hb5; replace rhk := row_next rhk hb5
  revert A; refine vW (vS (vR (vlm (h:=vlf (h:=?_)))))
  have hNl : Nums _ pol pnl lpl := hatl.below BW
  refine vl1 (rowq rb3) (h:=?_); intro A f
  refine l_call f rfl rfl rfl (IsCall.mk' (cap := []) rfl rfl rfl) (pl rfl) (pBackAll_ok _ B gz hbk (y.withZ zs) pol pnl pcl lpl rhk HYk hne hNl hNe hcb) ?_
  clear f A
  rintro _ W6 ⟨rfl, zk, hzk, HY2, hb2, haw2⟩
  refine ⟨_, rfl, ?_⟩
  intro A f
  have hbt2 := hbt.trans (hb2)
  revert A; refine vla (h:=vW (vS (vR (vlm (h:=vlb (y_neq rfl rfl rfl) (h:=?_) (g:=?_))))))
  ·intro c7; exfalso; omega
  intro c7
  refine vW (vD (h:=vK (vU (vT (vR (vlA (h:=vlm (h:=vW ?_)))))))); intro A f
  exact ⟨y.ln - (k + 1), by omega, k + 1, zk, rfl, by omega, f.sub ⟨rfl, rfl, rfl, rfl, trivial⟩, HY2, hzk.trans (by rw [hhp, ← backs_append, hpk]), hbt2, fun b hb h => haw2 b (by have := hbt.size; have := BW.size; omega) (haw b hb h)⟩
 intro c2
 refine vW (vS (vD (h:=vX (vH (vH (vI (vT (vS (vR ?_)))))))))
 have hbe := hbt
 refine vlm (h:=vli (h:=vlf (h:=?_))); intro A f
 refine vls f rhk ?_
 clear rhk; intro W8 hb9 rhk; dsimp only [setL, over, Value.cells] at rhk; have hst := hb9
 revert A; refine vW (vS (vR (vla (h:=vW (vE ?_))))); intro A f
 refine x_ret1 f rfl rfl ?_
 exact ⟨rfl, zs, by rw [hhp, pgs_all hL0 hpg (by omega)], (HYk.but hst hne (haw _ (row_lt rh) ha)).noLists, rhk, (Bu2.of_but_g hbe).trans (Bu2.of_but_z hst), haw⟩
theorem pdrainF_ok (w : World) (B gz hbk : Nat) (y : Hx) (rh : w.heap[hbk]? = some (.cells #[.slice y.zo y.zn y.zc, .slice y.mo y.mn y.mc, .int .i64 y.cpus, .slice y.lo y.ln y.lc, .slice y.vo y.vn y.vc] 34 (0, 0))) (HY : HZ w B gz y) (hne : hbk ≠ gz) (ha : Away hbk y) (hc : CanBacks y.hp (y.hp.lists.flatMap (·.pages))) :
    Calls Tryz.prog 43 #[.pointer (some ⟨hbk, 0, none⟩)] w fun e w' => e = .returned (.int .i64 0) ∧ ∃ zs, (y.withZ zs).hp = backs y.hp (y.hp.lists.flatMap (·.pages)) ∧ HZ w' B gz (y.withZ zs).noLists ∧ w'.heap[hbk]? = some (.cells #[.slice y.zo y.zn y.zc, .slice y.mo y.mn y.mc, .int .i64 y.cpus, .slice none 0 0, .slice y.vo y.vn y.vc] 34 (0, 0)) ∧ Bu2 gz hbk w w' ∧ (∀ b, b < w.heap.size → AwayF b y → AwayF b (y.withZ zs)) := by
 have lr := HY.at_.lists.reach
 obtain ⟨pgs, hpg⟩ : ∃ f, f = pgsOf y := ⟨_, rfl⟩
 have B0 := Below.refl w.heap.size w
 refine sx_enter (args := [_]) 26 Tryz.func43 rfl rfl rfl ?_
 refine vS (vR (vla (h:=vW (vS (vS (vR (vlm (h:=vli (h:=vlf (h:=vl1 (rowq rh) (h:=vlz (h:=vlm (h:=vW (vB ?_))))))))))))))
 have hL0 := HY.at_
 intro A f
 refine x_loop (fun n A W => ∃ (k : Nat) (zs : List Zc), n = y.ln - k ∧ k ≤ y.ln ∧ Fr A 26 [(0, .pointer (some ⟨hbk, 0, none⟩)), (9, .slice y.lo y.ln y.lc), (10, .int .i64 (y.ln : Nat)), (11, .int .i64 (k : Nat))] ∧ HZ W B gz (y.withZ zs) ∧ (y.withZ zs).hp = backs y.hp (pgs k) ∧ But gz w W ∧ (∀ b, b < w.heap.size → AwayF b y → AwayF b (y.withZ zs))) (n0 := y.ln) (⟨0, y.zs, rfl, Nat.zero_le _, f.sub ⟨rfl, rfl, rfl, rfl, trivial⟩, HY.below B0, by rw [hpg]; rfl, But.of_below B0, fun _ _ h => h⟩) ?_
 clear f A
 clear B0
 rintro n A W1 ⟨k, zs, hn, hk, f, HYk, hhp, hbt, haw⟩
 have BW := Below.refl W1.heap.size W1
 have rhk := But.row hbt rh hne
 revert A; refine vS (vR (vlb (y_lss rfl rfl rfl) (h:=?_) (g:=?_)))
 ·intro c2
  refine vW (vS (vC (h:=vK (vT (vS (vB (vS (vR ?_))))))))
  obtain ⟨gl, ol, lcl, lzl, ltl, lpl, pol, pnl, pcl, hal, c0l, c1l, c2l, c3l, hatl, hXl⟩ := HYk.at_.lists.at (k) (show k < y.ln by omega)
  replace c0l := St.of c0l; replace c1l := St.of c1l; replace c2l := St.of c2l; replace c3l := St.of c3l
  have hXl2 : y.ls.getD k .zero = ⟨⟨lcl, lzl, ltl, lpl⟩, pol, pnl, pcl⟩ := hXl.out
  have hml : (⟨⟨lcl, lzl, ltl, lpl⟩, pol, pnl, pcl⟩ : Lc) ∈ y.ls := by rw [← hXl2]; exact getD_mem (by have := HY.at_.lists.len; omega)
  have hNe : 0 < lpl.length → ∀ a, pol = some a → a.block ≠ gz := fun h0 a ha => HY.aw.p _ hml h0 a ha
  have hpk : pgs k ++ lpl = pgs (k + 1) := pgs_succ hL0 hpg (by omega) hXl2
  have hcb : CanBacks (y.withZ zs).hp lpl := by
   rw [hhp]
   have e := hc
   rw [pgs_split hL0 hpg (show k < y.ln by omega) hXl2, canBacks_append] at e
   rw [canBacks_append] at e
   exact e.1.2
  refine vlx (h:=vld (y_loadN (vs := [_, _, _, _]) rfl rfl (ag rfl) rfl ⟨(by first | assumption | exact St.q c0l BW | exact St.q c1l BW | exact St.q c2l BW | exact St.q c3l BW), (by first | assumption | exact St.q c0l BW | exact St.q c1l BW | exact St.q c2l BW | exact St.q c3l BW), (by first | assumption | exact St.q c0l BW | exact St.q c1l BW | exact St.q c2l BW | exact St.q c3l BW), (by first | assumption | exact St.q c0l BW | exact St.q c1l BW | exact St.q c2l BW | exact St.q c3l BW), trivial⟩) (h:=?_)); intro A f
  refine l_as (z := .agg #[.int .i64 0, .int .i64 0, .int .i64 0, .slice none 0 0]) f rfl rfl rfl rfl (by kernel_rfl) rfl rfl (fun _ => rfl) (fun _ => rfl) rfl (by intro u hu; simp [Value.cells] at hu; rcases hu with rfl | rfl | rfl | rfl <;> rfl) ?_; clear f A; intro b3 W4 eb3 hb5 rb3 A f
  dsimp only [Value.cells] at rb3
  have hpb3 := hb5
  have o_hbk_b3 : hbk < b3 := by have := row_lt rhk; omega
  have z_BW_b3 := BW.size; rw [eb3] at z_BW_b3
  replace BW := Below.next BW hb5; replace HYk := HYk.below hb5; replace hbt := hbt.gr hb5; replace rhk := row_next rhk hb5
  revert A; refine vW (vS (vR (vlm (h:=vlf (h:=?_)))))
  have hNl : Nums _ pol pnl lpl := hatl.below BW
  refine vl1 (rowq rb3) (h:=?_); intro A f
  refine l_call f rfl rfl rfl (IsCall.mk' (cap := []) rfl rfl rfl) (pl rfl) (pBackAllF_ok _ B gz hbk (y.withZ zs) pol pnl pcl lpl rhk HYk hne hNl hNe hcb) ?_
  clear f A
  rintro _ W6 ⟨rfl, zk, hzk, HY2, hb2, haw2⟩
  refine ⟨_, rfl, ?_⟩
  intro A f
  have hbt2 := hbt.trans (hb2)
  revert A; refine vla (h:=vW (vS (vR (vlm (h:=vlb (y_neq rfl rfl rfl) (h:=?_) (g:=?_))))))
  ·intro c7; exfalso; omega
  intro c7
  refine vW (vD (h:=vK (vU (vT (vR (vlA (h:=vlm (h:=vW ?_)))))))); intro A f
  exact ⟨y.ln - (k + 1), by omega, k + 1, zk, rfl, by omega, f.sub ⟨rfl, rfl, rfl, rfl, trivial⟩, HY2, hzk.trans (by rw [hhp, ← backs_append, hpk]), hbt2, fun b hb h => haw2 b (by have := hbt.size; have := BW.size; omega) (haw b hb h)⟩
 intro c2
 refine vW (vS (vD (h:=vX (vH (vH (vI (vT (vS (vR ?_)))))))))
 have hbe := hbt
 refine vlm (h:=vli (h:=vlf (h:=?_))); intro A f
 refine vls f rhk ?_
 clear rhk; intro W8 hb9 rhk; dsimp only [setL, over, Value.cells] at rhk; have hst := hb9
 revert A; refine vW (vS (vR (vla (h:=vW (vE ?_))))); intro A f
 refine x_ret1 f rfl rfl ?_
 exact ⟨rfl, zs, by rw [hhp, pgs_all hL0 hpg (by omega)], (HYk.but hst hne (awayF_away (y := y) (zs := zs) ha (haw _ (row_lt rh) ⟨ha.f, ha.t⟩))).noLists, rhk, (Bu2.of_but_g hbe).trans (Bu2.of_but_z hst), haw⟩
end Go.Proofs.YtjohdbiipeedkaaGreatDoor
namespace Go.Proofs.YtjohdbiipeedkaaGreatDoor.Kit
open Go Go.RowKit
def updF (f : Nat → Value) (j : Nat) (u : Value) : Nat → Value := fun k => if k = j then u else f k
theorem updF_same (f : Nat → Value) (j : Nat) (u : Value) : updF f j u j = u := by simp [updF]
theorem updF_other (f : Nat → Value) {j k : Nat} (u : Value) (h : k ≠ j) : updF f j u k = f k := by simp [updF, h]
theorem countP_upd {m j : Nat} {p q : Nat → Bool} (hj : j < m) (hp : p j = true) (hq : q j = false) (h : ∀ k, k ≠ j → q k = p k) : (List.range m).countP q + 1 = (List.range m).countP p := by
 induction m with
 | zero => omega
 | succ m ih =>
  rw [List.range_succ, List.countP_append, List.countP_append]
  by_cases e : j = m
  ·subst e
   have : (List.range j).countP q = (List.range j).countP p := List.countP_congr fun k hk => by rw [h k (by have := List.mem_range.1 hk; omega)]
   simp [this, hp, hq]
  have := ih (by omega)
  rw [show (List.countP q [m]) = List.countP p [m] by simp [List.countP_cons, h m (fun g => e g.symm)]]
  omega
def rdyOk (md : Region.Mode) (l : List Oper) (listed : Array Bool) (ps : List (Nat × Bool)) : Bool :=
 ps.all (·.2) || (!(Region.ready md l.toArray listed).isEmpty && (Region.ready md l.toArray listed).all fun i => ps.any fun p => p.1 == i && !p.2)
theorem manyB {P : Program} {md : Region.Mode} {Q : Exit → Act → World → Prop} {S : World → Prop} {l : List Oper} (m mb : Nat) (hmb : mb ≤ m) (F : (Nat → Value) → Value → Act) (idx : Nat → Nat) (obj : Nat → Obj) (val : Nat → Nat → Value) (vb : (Nat → Nat) → Value) (L : (Nat → Bool) → Bool → Array Bool) {W0 : World} {fuel : Nat} {u0 : Value}
    (hop : ∀ j, j < m → ∃ o, l[idx j]? = some o ∧ o.guard = none ∧ ∀ (f : Nat → Value) (u : Value) (W : World) (K : Act → World → Prop), Below W0.heap.size W0 W → K (F (updF f j (val j W.heap.size)) u) (W.alloc (obj j)) → o.wp P (F f u) W K Q)
    (hset : ∀ j, j < m → ∀ b c, (L b c).setIfInBounds (idx j) true = L (fun k => if k = j then true else b k) c)
    (hL : ∀ b b' c, (∀ j, j < m → b j = b' j) → L b c = L b' c)
    (hF : ∀ f f' u, (∀ j, j < m → f j = f' j) → F f u = F f' u)
    (hvb : ∀ n n', (∀ j, j < mb → n j = n' j) → vb n = vb n')
    (hrdy' : ∀ b c, ((!c && (List.range mb).all b) || rdyOk md l (L b c) ((List.range m).map fun j => (idx j, b j))) = true)
    (hbuild : ∀ (b : Nat → Bool), (∀ j, j < mb → b j = true) → ∀ (f : Nat → Value) (n : Nat → Nat) (W : World) (fuel' : Nat), (∀ j, j < mb → f j = val j (n j)) → Below W0.heap.size W0 W → wpAnyH P md l.toArray Q S fuel' (L b true) (F f (vb n)) W → wpAnyH P md l.toArray Q S (fuel' + 1) (L b false) (F f u0) W)
    (hS : ∀ W, Below W0.heap.size W0 W → S W)
    (hend : ∀ (n : Nat → Nat) (W : World), Below W0.heap.size W0 W → (∀ j, j < m → W0.heap.size ≤ n j ∧ W.heap[n j]? = some (obj j)) → (∀ j k, j < m → k < m → j ≠ k → n j ≠ n k) → wpAnyH P md l.toArray Q S fuel (L (fun _ => true) true) (F (fun j => val j (n j)) (vb n)) W)
    (f0 : Nat → Value) : wpAnyH P md l.toArray Q S (fuel + m + 1) (L (fun _ => false) false) (F f0 u0) W0 := by
 have hrdy : ∀ (b : Nat → Bool) c, (c = true ∨ ∃ j, j < mb ∧ b j = false) → (∃ j, j < m ∧ b j = false) → Region.ready md l.toArray (L b c) ≠ [] ∧ ∀ i ∈ Region.ready md l.toArray (L b c), ∃ j, j < m ∧ i = idx j ∧ b j = false := by
  rintro b c hc ⟨j, hj, hjf⟩
  have h0 := hrdy' b c
  have h : rdyOk md l (L b c) ((List.range m).map fun j => (idx j, b j)) = true := by
   rcases Bool.or_eq_true _ _ ▸ h0 with h | h
   ·exfalso
    rw [Bool.and_eq_true] at h
    rcases hc with rfl | ⟨k, hk, hkf⟩
    ·simp at h
    have := List.all_eq_true.1 h.2 k (List.mem_range.2 hk)
    rw [hkf] at this
    cases this
   exact h
  unfold rdyOk at h
  rw [Bool.or_eq_true] at h
  rcases h with h | h
  ·have := List.all_eq_true.1 h (idx j, b j) (List.mem_map.2 ⟨j, List.mem_range.2 hj, rfl⟩)
   rw [hjf] at this
   cases this
  rw [Bool.and_eq_true] at h
  refine ⟨fun e => (by rw [e] at h; exact absurd h.1 (by simp)), fun i hi => ?_⟩
  have := List.all_eq_true.1 h.2 i hi
  obtain ⟨p, hp, hq⟩ := List.any_eq_true.1 this
  obtain ⟨k, hk, rfl⟩ := List.mem_map.1 hp
  simp only [Bool.and_eq_true, beq_iff_eq, Bool.not_eq_true'] at hq
  exact ⟨k, List.mem_range.1 hk, hq.1.symm, hq.2⟩
 suffices H : ∀ (c : Nat) (x : Nat → Option Nat) (bt : Bool) (u : Value) (f : Nat → Value) (W : World), (List.range m).countP (fun j => (x j).isNone) = c →
     (∀ j n, j < m → x j = some n → f j = val j n ∧ W0.heap.size ≤ n ∧ W.heap[n]? = some (obj j)) → (∀ j k n, j < m → k < m → j ≠ k → x j = some n → x k ≠ some n) → Below W0.heap.size W0 W →
     (bt = false → u = u0) → (bt = true → (∀ j, j < mb → (x j).isSome = true) ∧ u = vb fun j => (x j).getD 0) →
     wpAnyH P md l.toArray Q S (fuel + c + (if bt = true then 0 else 1)) (L (fun j => (x j).isSome) bt) (F f u) W by
  have h := H m (fun _ => none) false u0 f0 W0 (by simp) (fun j n _ h => by cases h) (fun j k n _ _ _ h => by cases h) (Below.refl _ _) (fun _ => rfl) (fun h => by cases h)
  simpa using h
 have done : ∀ (c : Nat) (x : Nat → Option Nat) (f : Nat → Value) (W : World), (List.range m).countP (fun j => (x j).isNone) = c →
     (∀ j n, j < m → x j = some n → f j = val j n ∧ W0.heap.size ≤ n ∧ W.heap[n]? = some (obj j)) → (∀ j k n, j < m → k < m → j ≠ k → x j = some n → x k ≠ some n) → Below W0.heap.size W0 W → c = 0 →
     wpAnyH P md l.toArray Q S fuel (L (fun j => (x j).isSome) true) (F f (vb fun j => (x j).getD 0)) W := by
  intro c x f W hc hx hd hb h0
  subst h0
  have hall : ∀ j, j < m → ∃ n, x j = some n := by
   intro j hj
   cases h : x j with
   | some n => exact ⟨n, rfl⟩
   | none =>
    have := (List.countP_eq_zero.1 hc) j (List.mem_range.2 hj)
    simp [h] at this
  have e1 : L (fun j => (x j).isSome) true = L (fun _ => true) true := hL _ _ _ fun j hj => by obtain ⟨n, hn⟩ := hall j hj; simp [hn]
  have e2 : F f (vb fun j => (x j).getD 0) = F (fun j => val j ((x j).getD 0)) (vb fun j => (x j).getD 0) := hF _ _ _ fun j hj => by obtain ⟨n, hn⟩ := hall j hj; rw [(hx j n hj hn).1, hn]; rfl
  rw [e1, e2]
  refine hend (fun j => (x j).getD 0) W hb (fun j hj => ?_) (fun j k hj hk hne => ?_)
  ·obtain ⟨n, hn⟩ := hall j hj
   simp only [hn, Option.getD_some]
   exact (hx j n hj hn).2
  obtain ⟨n, hn⟩ := hall j hj
  obtain ⟨n', hn'⟩ := hall k hk
  simp only [hn, hn', Option.getD_some]
  intro e
  exact hd j k n hj hk hne hn (by rw [hn', e])
 intro c
 induction c with
 | zero =>
  intro x bt u f W hc hx hd hb hu hu'
  have hall : ∀ j, j < m → ∃ n, x j = some n := by
   intro j hj
   cases h : x j with
   | some n => exact ⟨n, rfl⟩
   | none =>
    have := (List.countP_eq_zero.1 hc) j (List.mem_range.2 hj)
    simp [h] at this
  have hd0 := done 0 x f W hc hx hd hb rfl
  cases bt with
  | true =>
   rw [(hu' rfl).2]
   simpa using hd0
  | false =>
   rw [hu rfl]
   have := hbuild (fun j => (x j).isSome) (fun j hj => by obtain ⟨n, hn⟩ := hall j (by omega); simp [hn]) f (fun j => (x j).getD 0) W fuel (fun j hj => by obtain ⟨n, hn⟩ := hall j (by omega); rw [(hx j n (by omega) hn).1, hn]; rfl) hb hd0
   simpa using this
 | succ c ih =>
  have step : ∀ (x : Nat → Option Nat) (bt : Bool) (u : Value) (f : Nat → Value) (W : World), (List.range m).countP (fun j => (x j).isNone) = c + 1 →
   (∀ j n, j < m → x j = some n → f j = val j n ∧ W0.heap.size ≤ n ∧ W.heap[n]? = some (obj j)) → (∀ j k n, j < m → k < m → j ≠ k → x j = some n → x k ≠ some n) → Below W0.heap.size W0 W →
   (bt = false → u = u0) → (bt = true → (∀ j, j < mb → (x j).isSome = true) ∧ u = vb fun j => (x j).getD 0) → (bt = true ∨ ∃ j, j < mb ∧ (x j).isSome = false) →
   wpAnyH P md l.toArray Q S (fuel + (c + 1) + (if bt = true then 0 else 1)) (L (fun j => (x j).isSome) bt) (F f u) W := by
   intro x bt u f W hc hx hd hb hu hu' hbt
   have hex : ∃ j, j < m ∧ (x j).isSome = false := by
    apply Classical.byContradiction
    intro hno
    have : (List.range m).countP (fun j => (x j).isNone) = 0 := List.countP_eq_zero.2 fun j hj => by
     intro h
     exact hno ⟨j, List.mem_range.1 hj, by simpa using h⟩
    omega
   obtain ⟨r1, r2⟩ := hrdy (fun j => (x j).isSome) bt hbt hex
   have ef : fuel + (c + 1) + (if bt = true then 0 else 1) = (fuel + c + (if bt = true then 0 else 1)) + 1 := by omega
   rw [ef]
   refine ⟨fun h => absurd h r1, fun i hi => ?_⟩
   obtain ⟨j, hj, rfl, hn⟩ := r2 i hi
   obtain ⟨o, o1, o2, hwp⟩ := hop j hj
   have hnone : x j = none := by
    cases h : x j with
    | none => rfl
    | some n => rw [h] at hn; cases hn
   unfold wpOp
   have o1' : l.toArray[idx j]? = some o := by simpa using o1
   rw [o1']
   have hw : ∀ y, Region.wanted o y = true := fun y => by simp [Region.wanted, o2]
   simp only [hw, if_true]
   refine .inl (hwp f u W _ hb ?_)
   have hb' : Below W0.heap.size W0 (W.alloc (obj j)) := hb.alloc hb.size _
   have hg : ∀ n, n < W.heap.size → (W.alloc (obj j)).heap[n]? = W.heap[n]? := fun n hn => by
    show (W.heap.push (obj j))[n]? = _
    rw [Array.getElem?_push, if_neg (by omega)]
   have hself : (W.alloc (obj j)).heap[W.heap.size]? = some (obj j) := by
    show (W.heap.push (obj j))[W.heap.size]? = _
    rw [Array.getElem?_push, if_pos rfl]
   refine ⟨hS _ hb', ?_⟩
   rw [hset j hj]
   have key := ih (fun k => if k = j then some W.heap.size else x k) bt u (updF f j (val j W.heap.size)) (W.alloc (obj j)) (by
       have := countP_upd (m := m) (p := fun k => (x k).isNone) (q := fun k => (if k = j then some W.heap.size else x k).isNone) hj (by simp [hnone]) (by simp) (fun k hk => by simp [hk])
       omega) (fun k n hk h => by
       by_cases e : k = j
       ·subst e
        simp only [if_true, Option.some.injEq] at h
        subst h
        exact ⟨updF_same _ _ _, hb.size, hself⟩
       ·simp only [e, if_false] at h
        obtain ⟨h1, h2, h3⟩ := hx k n hk h
        have hlt := (Array.getElem?_eq_some_iff.1 h3).1
        exact ⟨by rw [updF_other _ _ e, h1], h2, (hg n hlt).trans h3⟩) (fun k k' n hk hk' hne h h' => by
       by_cases e : k = j
       ·subst e
        have e' : ¬ k' = k := fun g => hne g.symm
        simp only [if_true, Option.some.injEq] at h
        simp only [e', if_false] at h'
        have := (Array.getElem?_eq_some_iff.1 (hx k' n hk' h').2.2).1
        omega
       ·simp only [e, if_false] at h
        by_cases e' : k' = j
        ·subst e'
         simp only [if_true, Option.some.injEq] at h'
         have := (Array.getElem?_eq_some_iff.1 (hx k n hk h).2.2).1
         omega
        simp only [e', if_false] at h'
        exact hd k k' n hk hk' hne h h') hb' hu (fun h => by
       obtain ⟨a1, a2⟩ := hu' h
       have hjb : ¬ j < mb := fun hjb => by have := a1 j hjb; rw [hnone] at this; cases this
       refine ⟨fun k hk => ?_, ?_⟩
       ·simp only [show ¬ k = j by omega, if_false]
        exact a1 k hk
       rw [a2]
       exact hvb _ _ fun k hk => by simp only [show ¬ k = j by omega, if_false])
   have e1 : L (fun k => if k = j then true else (x k).isSome) bt = L (fun k => (if k = j then some W.heap.size else x k).isSome) bt := hL _ _ _ fun k _ => by
    by_cases e : k = j <;> simp [e]
   rw [e1]
   exact key
  intro x bt u f W hc hx hd hb hu hu'
  by_cases hq : bt = true ∨ ∃ j, j < mb ∧ (x j).isSome = false
  ·exact step x bt u f W hc hx hd hb hu hu' hq
  have hbt : bt = false := by cases bt with
   | false => rfl
   | true => exact absurd (.inl rfl) hq
  have hallb : ∀ j, j < mb → (x j).isSome = true := fun j hj => by
   cases h : (x j).isSome with
   | true => rfl
   | false => exact absurd (.inr ⟨j, hj, h⟩) hq
  subst hbt
  rw [hu rfl]
  have := step x true (vb fun j => (x j).getD 0) f W hc hx hd hb (fun h => by cases h) (fun _ => ⟨hallb, rfl⟩) (.inl rfl)
  have h2 := hbuild (fun j => (x j).isSome) hallb f (fun j => (x j).getD 0) W _ (fun j hj => by
   have := hallb j hj
   cases h : x j with
   | none => rw [h] at this; cases this
   | some n => rw [(hx j n (by omega) h).1]; rfl) hb this
  simpa using h2
end Go.Proofs.YtjohdbiipeedkaaGreatDoor.Kit
namespace Go.Proofs.YtjohdbiipeedkaaGreatDoor
open Go Go.RowKit Go.Proofs.YtjohdbiipeedkaaGreatDoor.Kit
theorem pCopy_own (w : World) (x : Hx) (h : x.At w) :
    Calls Tryz.prog 41 #[.agg #[.slice x.zo x.zn x.zc, .slice x.mo x.mn x.mc, .int .i64 x.cpus, .slice x.lo x.ln x.lc, .slice x.vo x.vn x.vc]] w fun e w' => RetHeap w.heap.size w' x.hp e ∧ Below w.heap.size w w' := by
 obtain ⟨zs, zo, zn, zc, mins, mo, mn, mc, cpus, ls, lo, ln, lc, live, vo, vn, vc⟩ := x
 dsimp only at h ⊢
 obtain ⟨i0, hi0, zi0, si0, bi0⟩ := info_parts info_int
 obtain ⟨i1, hi1, zi1, si1, bi1⟩ := info_parts info_block
 obtain ⟨i2, hi2, zi2, si2, bi2⟩ := info_parts info_zone
 obtain ⟨i3, hi3, zi3, si3, bi3⟩ := info_parts info_list
 have rz := h.zones.reach
 have rm := h.mins.reach
 have rl := h.lists.reach
 have rv := h.live.reach
 dsimp only at rz rm rl rv
 have mz : zn ≤ maxLen := by unfold maxLen; omega
 have mm : mn ≤ maxLen := by unfold maxLen; omega
 have ml : ln ≤ maxLen := by unfold maxLen; omega
 have mv : vn ≤ maxLen := by unfold maxLen; omega
 obtain ⟨MZ, sZ, hMZ⟩ := made_b (P := Tryz.prog) Tryz.underlying29 hi2 zi2 zn (by rw [bi2]; omega) mz
 obtain ⟨MM, sM, hMM⟩ := made_b (P := Tryz.prog) Tryz.underlying30 hi0 zi0 mn (by rw [bi0]; omega) mm
 obtain ⟨ML, sL, hML⟩ := made_b (P := Tryz.prog) Tryz.underlying31 hi3 zi3 ln (by rw [bi3]; omega) ml
 obtain ⟨MV, sV, hMV⟩ := made_b (P := Tryz.prog) Tryz.underlying32 hi1 zi1 vn (by rw [bi1]; omega) mv
 rw [si2] at sZ
 rw [si0] at sM
 rw [si3] at sL
 rw [si1] at sV
 obtain ⟨W0, hW0⟩ : ∃ W0, (w.alloc (.cells #[.slice zo zn zc, .slice mo mn mc, .int .i64 cpus, .slice lo ln lc, .slice vo vn vc] 34)).alloc (.cells #[.slice none 0 0, .slice none 0 0, .int .i64 0, .slice none 0 0, .slice none 0 0] 34) = W0 := ⟨_, rfl⟩
 have hb0 : Below w.heap.size w W0 := by rw [← hW0]; exact ((Below.refl _ _).alloc (Nat.le_refl _) _).alloc (by simp) _
 have B0 : HBox W0 w.heap.size (.slice zo zn zc) (.slice mo mn mc) (.int .i64 cpus) (.slice lo ln lc) (.slice vo vn vc) := by rw [← hW0]; exact (hbox_new w _ _ _ _ _ _).below (below_box _ _)
 have R0 : HBox W0 (w.heap.size + 1) (.slice none 0 0) (.slice none 0 0) (.int .i64 0) (.slice none 0 0) (.slice none 0 0) := by
  rw [← hW0]
  have := hbox_new (w.alloc (.cells #[.slice zo zn zc, .slice mo mn mc, .int .i64 cpus, .slice lo ln lc, .slice vo vn vc] 34)) (.slice none 0 0) (.slice none 0 0) (.int .i64 0) (.slice none 0 0) (.slice none 0 0) 34
  simpa using this
 have hs0 : Hid (W0.heap.size = w.heap.size + 2) := by show _ = _; rw [← hW0]; simp
 have HW0 : Hid _ := hW0
 have m0 : ∀ wx, Below W0.heap.size W0 wx → wx.cell? ⟨w.heap.size, 0, none⟩ = some (.slice zo zn zc) := fun wx h => keep B0.c0 h
 have m1 : ∀ wx, Below W0.heap.size W0 wx → wx.cell? ⟨w.heap.size, 1, none⟩ = some (.slice mo mn mc) := fun wx h => keep B0.c1 h
 have m2 : ∀ wx, Below W0.heap.size W0 wx → wx.cell? ⟨w.heap.size, 2, none⟩ = some (.int .i64 cpus) := fun wx h => keep B0.c2 h
 have m3 : ∀ wx, Below W0.heap.size W0 wx → wx.cell? ⟨w.heap.size, 3, none⟩ = some (.slice lo ln lc) := fun wx h => keep B0.c3 h
 have m4 : ∀ wx, Below W0.heap.size W0 wx → wx.cell? ⟨w.heap.size, 4, none⟩ = some (.slice vo vn vc) := fun wx h => keep B0.c4 h
 have S1 : Below W0.heap.size W0 { W0 with drawn := W0.drawn + 1 } := (Below.refl W0.heap.size W0).drew
 clear hW0
 go_enter Tryz.func41, Tryz.ntmps41
 go_wp2_with (rw [HW0.out])
 refine wp_region_peel (S := fun wx => Below W0.heap.size W0 wx) 20 _ (by kernel_rfl) (by kernel_rfl) rfl ?_
 simp only [List.take_succ_cons, List.take_zero]
 refine tkH 0 (.pointer (some ⟨w.heap.size, 0, none⟩)) S1 (h:=?_)
 refine tkH 1 (.slice zo zn zc) S1 (h:=?_)
 refine tkH 2 (.int .i64 (zn : Int)) S1 (h:=?_)
 refine tkH 4 (.pointer (some ⟨w.heap.size, 1, none⟩)) S1 (h:=?_)
 refine tkH 5 (.slice mo mn mc) S1 (h:=?_)
 refine tkH 6 (.int .i64 (mn : Int)) S1 (h:=?_)
 refine tkH 8 (.pointer (some ⟨w.heap.size, 2, none⟩)) S1 (h:=?_)
 refine tkH 9 (.int .i64 cpus) S1 (h:=?_)
 refine tkH 10 (.pointer (some ⟨w.heap.size, 3, none⟩)) S1 (h:=?_)
 refine tkH 11 (.slice lo ln lc) S1 (h:=?_)
 refine tkH 12 (.int .i64 (ln : Int)) S1 (h:=?_)
 refine tkH 14 (.pointer (some ⟨w.heap.size, 4, none⟩)) S1 (h:=?_)
 refine tkH 15 (.slice vo vn vc) S1 (h:=?_)
 refine tkH 16 (.int .i64 (vn : Int)) S1 (h:=?_)
 refine manyB (fuel := 0) (W0 := { W0 with drawn := W0.drawn + 1 }) (u0 := undef) 5 4 (by decide) (fun f u => { tmps := #[.agg #[.slice zo zn zc, .slice mo mn mc, .int .i64 cpus, .slice lo ln lc, .slice vo vn vc], .pointer (some ⟨w.heap.size, 0, none⟩), .pointer (some ⟨w.heap.size + 1, 0, none⟩), f 4, undef, undef, undef, undef, .pointer (some ⟨w.heap.size, 0, none⟩), .slice zo zn zc, .int .i64 (zn : Int), f 0, .pointer (some ⟨w.heap.size, 1, none⟩), .slice mo mn mc, .int .i64 (mn : Int), f 1, .pointer (some ⟨w.heap.size, 2, none⟩), .int .i64 cpus, .pointer (some ⟨w.heap.size, 3, none⟩), .slice lo ln lc, .int .i64 (ln : Int), f 2, .pointer (some ⟨w.heap.size, 4, none⟩), .slice vo vn vc, .int .i64 (vn : Int), f 3, u, undef, undef, undef, undef, undef, undef, undef, undef, undef, undef, undef, undef, undef, undef, undef, undef, undef, undef, undef, undef, undef, undef, undef, undef, undef, undef, undef, undef, undef, undef, undef, undef, undef, undef, undef, undef, undef, undef, undef, undef, undef, undef, undef, undef, undef, undef, undef, undef, undef, undef, undef, undef, undef, undef, undef, undef, undef, undef], defers := [] }) (fun j => match j with | 0 => 3 | 1 => 7 | 2 => 13 | 3 => 17 | _ => 19)
  (fun j => match j with | 0 => .cells MZ 54 | 1 => .cells MM 3 | 2 => .cells ML 69 | 3 => .cells MV 40 | _ => .cells #[.slice none 0 0, .slice none 0 0, .int .i64 0, .slice none 0 0, .slice none 0 0] 34)
  (fun j n => match j with | 0 => .slice (some ⟨n, 0, none⟩) zn zn | 1 => .slice (some ⟨n, 0, none⟩) mn mn | 2 => .slice (some ⟨n, 0, none⟩) ln ln | 3 => .slice (some ⟨n, 0, none⟩) vn vn | _ => .pointer (some ⟨n, 0, none⟩))
  (fun n => .agg #[.slice (some ⟨n 0, 0, none⟩) zn zn, .slice (some ⟨n 1, 0, none⟩) mn mn, .int .i64 cpus, .slice (some ⟨n 2, 0, none⟩) ln ln, .slice (some ⟨n 3, 0, none⟩) vn vn])
  (fun b c => #[true, true, true, b 0, true, true, true, b 1, true, true, true, true, true, b 2, true, true, true, b 3, c, b 4]) ?_ ?_ ?_ ?_ ?_ ?_ ?_ ?_ ?_ (fun _ => undef)
 ·intro j hj
  rcases (show j = 0 ∨ j = 1 ∨ j = 2 ∨ j = 3 ∨ j = 4 by omega) with rfl | rfl | rfl | rfl | rfl
  ·refine ⟨_, rfl, rfl, fun f u W K hW hK => ?_⟩
   have := hMZ W
   go_simp
   exact hK
  ·refine ⟨_, rfl, rfl, fun f u W K hW hK => ?_⟩
   have := hMM W
   go_simp
   exact hK
  ·refine ⟨_, rfl, rfl, fun f u W K hW hK => ?_⟩
   have := hML W
   go_simp
   exact hK
  ·refine ⟨_, rfl, rfl, fun f u W K hW hK => ?_⟩
   have := hMV W
   go_simp
   exact hK
  refine ⟨_, rfl, rfl, fun f u W K hW hK => ?_⟩
  go_simp
  exact hK
 ·intro j hj b c
  rcases (show j = 0 ∨ j = 1 ∨ j = 2 ∨ j = 3 ∨ j = 4 by omega) with rfl | rfl | rfl | rfl | rfl <;> rfl
 ·intro b b' c hb
  simp only [hb 0 (by decide), hb 1 (by decide), hb 2 (by decide), hb 3 (by decide), hb 4 (by decide)]
 ·intro f f' u hf
  simp only [hf 0 (by decide), hf 1 (by decide), hf 2 (by decide), hf 3 (by decide), hf 4 (by decide)]
 ·intro n n' hn
  simp only [hn 0 (by decide), hn 1 (by decide), hn 2 (by decide), hn 3 (by decide)]
 ·intro b c
  show ((!c && [0, 1, 2, 3].all b) || rdyOk .any _ #[true, true, true, b 0, true, true, true, b 1, true, true, true, true, true, b 2, true, true, true, b 3, c, b 4] [(3, b 0), (7, b 1), (13, b 2), (17, b 3), (19, b 4)]) = true
  simp only [List.all_cons, List.all_nil]
  generalize b 0 = b0
  generalize b 1 = b1
  generalize b 2 = b2
  generalize b 3 = b3
  generalize b 4 = b4
  revert b0 b1 b2 b3 b4 c
  decide +kernel
 ·intro b hb f n W fuel' hf hW hgo
  have SW : Below W0.heap.size W0 W := S1.trans (hW.mono S1.size)
  have e0 : f 0 = .slice (some ⟨n 0, 0, none⟩) zn zn := hf 0 (by decide)
  have e1 : f 1 = .slice (some ⟨n 1, 0, none⟩) mn mn := hf 1 (by decide)
  have e2 : f 2 = .slice (some ⟨n 2, 0, none⟩) ln ln := hf 2 (by decide)
  have e3 : f 3 = .slice (some ⟨n 3, 0, none⟩) vn vn := hf 3 (by decide)
  simp only [hb 0 (by decide), hb 1 (by decide), hb 2 (by decide), hb 3 (by decide), e0, e1, e2, e3] at hgo ⊢
  generalize b 4 = b4 at hgo ⊢
  generalize f 4 = f4 at hgo ⊢
  cases b4
  ·refine takeH 18 (v := .agg #[.slice (some ⟨n 0, 0, none⟩) zn zn, .slice (some ⟨n 1, 0, none⟩) mn mn, .int .i64 cpus, .slice (some ⟨n 2, 0, none⟩) ln ln, .slice (some ⟨n 3, 0, none⟩) vn vn]) rfl (by kernel_rfl) (by kernel_rfl) (by kernel_rfl) (fun _ _ _ h => h) rfl (fun wx hSx => ?_) SW hgo
   go_simp
  refine takeH 18 (v := .agg #[.slice (some ⟨n 0, 0, none⟩) zn zn, .slice (some ⟨n 1, 0, none⟩) mn mn, .int .i64 cpus, .slice (some ⟨n 2, 0, none⟩) ln ln, .slice (some ⟨n 3, 0, none⟩) vn vn]) rfl (by kernel_rfl) (by kernel_rfl) (by kernel_rfl) (fun _ _ _ h => h) rfl (fun wx hSx => ?_) SW hgo
  go_simp
 ·intro W hW
  exact S1.trans (hW.mono S1.size)
 intro n W hW hn hne
 have SW : Below W0.heap.size W0 W := S1.trans (hW.mono S1.size)
 have a0 : W0.heap.size ≤ n 0 := (hn 0 (by decide)).1
 have a1 : W0.heap.size ≤ n 1 := (hn 1 (by decide)).1
 have a2 : W0.heap.size ≤ n 2 := (hn 2 (by decide)).1
 have a3 : W0.heap.size ≤ n 3 := (hn 3 (by decide)).1
 have a4 : W0.heap.size ≤ n 4 := (hn 4 (by decide)).1
 have r0 : W.heap[n 0]? = some (.cells MZ 54) := (hn 0 (by decide)).2
 have r1 : W.heap[n 1]? = some (.cells MM 3) := (hn 1 (by decide)).2
 have r2 : W.heap[n 2]? = some (.cells ML 69) := (hn 2 (by decide)).2
 have r3 : W.heap[n 3]? = some (.cells MV 40) := (hn 3 (by decide)).2
 have r4 : W.heap[n 4]? = some (.cells #[.slice none 0 0, .slice none 0 0, .int .i64 0, .slice none 0 0, .slice none 0 0] 34) := (hn 4 (by decide)).2
 have FV : Five W0.heap.size W.heap.size (n 4) (n 0) (n 1) (n 2) (n 3) := ⟨a4, a0, a1, a2, a3, lt_of_row r4, lt_of_row r0, lt_of_row r1, lt_of_row r2, lt_of_row r3, hne 4 0 (by decide) (by decide) (by decide), hne 4 1 (by decide) (by decide) (by decide), hne 4 2 (by decide) (by decide) (by decide), hne 4 3 (by decide) (by decide) (by decide),
  hne 0 1 (by decide) (by decide) (by decide), hne 0 2 (by decide) (by decide) (by decide), hne 0 3 (by decide) (by decide) (by decide), hne 1 2 (by decide) (by decide) (by decide), hne 1 3 (by decide) (by decide) (by decide), hne 2 3 (by decide) (by decide) (by decide)⟩
 refine wpAnyH_done (by kernel_rfl) ?_ _
 show Oper.wp _ _ _ _ _ _
 dsimp only
 clear hn hne hW S1 a0 a1 a2 a3 a4
 generalize n 0 = gz at *
 generalize n 1 = gm at *
 generalize n 2 = gl at *
 generalize n 3 = gv at *
 generalize n 4 = X at *
 clear n
 have BX := hbox_of_row r4
 have q0 := BX.c0
 have q1 := BX.c1
 have q2 := BX.c2
 have q3 := BX.c3
 have q4 := BX.c4
 have z0 := BX.z0
 have z1 := BX.z1
 have z2 := BX.z2
 have z3 := BX.z3
 have z4 := BX.z4
 have hbt := but5 W X (.slice (some ⟨gz, 0, none⟩) zn zn) (.slice (some ⟨gm, 0, none⟩) mn mn) (.int .i64 cpus) (.slice (some ⟨gl, 0, none⟩) ln ln) (.slice (some ⟨gv, 0, none⟩) vn vn)
 have BX2 := BX.set5 (.slice (some ⟨gz, 0, none⟩) zn zn) (.slice (some ⟨gm, 0, none⟩) mn mn) (.int .i64 cpus) (.slice (some ⟨gl, 0, none⟩) ln ln) (.slice (some ⟨gv, 0, none⟩) vn vn)
 obtain ⟨W1, hW1⟩ : ∃ W1, ((((W.setCell ⟨X, 0, none⟩ (.slice (some ⟨gz, 0, none⟩) zn zn)).setCell ⟨X, 1, none⟩ (.slice (some ⟨gm, 0, none⟩) mn mn)).setCell ⟨X, 2, none⟩ (.int .i64 cpus)).setCell ⟨X, 3, none⟩ (.slice (some ⟨gl, 0, none⟩) ln ln)).setCell ⟨X, 4, none⟩ (.slice (some ⟨gv, 0, none⟩) vn vn) = W1 := ⟨_, rfl⟩
 rw [hW1] at hbt BX2
 have HW1 : Hid _ := hW1
 have hsz : W.heap.size = W1.heap.size := by rw [← hW1]; simp [World.setCell]
 rw [hsz] at FV
 have I1 : HcI W0 w.heap.size ⟨zs, zo, zn, zc, mins, mo, mn, mc, cpus, ls, lo, ln, lc, live, vo, vn, vc⟩ X gz gm gl gv MZ.toList MM.toList ML.toList MV.toList W1 := by
  have e := hs0.out
  have B := B0.below SW
  have R := R0.below SW
  have f1 := FV.x1
  refine ⟨SW.trans (hbt.below f1 SW.size), B.but hbt (by omega), R.but hbt (by omega), BX2, ?_, ?_, ?_, ?_⟩
  ·exact (hbt.block _ (lt_of_row r0) (fun e => FV.xz e.symm)).trans (by simpa using r0)
  ·exact (hbt.block _ (lt_of_row r1) (fun e => FV.xm e.symm)).trans (by simpa using r1)
  ·exact (hbt.block _ (lt_of_row r2) (fun e => FV.xl e.symm)).trans (by simpa using r2)
  exact (hbt.block _ (lt_of_row r3) (fun e => FV.xv e.symm)).trans (by simpa using r3)
 clear hW1 hbt BX2 BX r0 r1 r2 r3 r4 SW hsz hMZ hMM hML hMV m0 m1 m2 m3 m4
 go_simp
 rw [HW1.out]
 clear HW1 q0 q1 q2 q3 q4 z0 z1 z2 z3 z4 B0 R0
 have p0 := I1.hin.c0
 have p1 := I1.hin.c1
 have p3 := I1.hin.c3
 have p4 := I1.hin.c4
 go_wp2_with fail
 obtain ⟨S, hS⟩ : ∃ S, W1.heap.size = S := ⟨_, rfl⟩
 rw [hS] at FV
 have HS : Hid _ := hS
 have hSZ : Hid (MZ.size = zn * 4) := sZ
 have hSM : Hid (MM.size = mn * 1) := sM
 have hSL : Hid (ML.size = ln * 4) := sL
 have hSV : Hid (MV.size = vn * 3) := sV
 clear hS sZ sM sL sV hi0 hi1 hi2 hi3 zi0 zi1 zi2 zi3 si0 si1 si2 si3 bi0 bi1 bi2 bi3
 go_loopw [30] (fun iv wr => ∃ (k : Nat) (done : List Zc) (CZ : List Value), k ≤ zn ∧ iv = .int .i64 k ∧ HcI W0 w.heap.size ⟨zs, zo, zn, zc, mins, mo, mn, mc, cpus, ls, lo, ln, lc, live, vo, vn, vc⟩ X gz gm gl gv CZ MM.toList ML.toList MV.toList wr ∧ ZDone S zn k zs done CZ wr ∧ S ≤ wr.heap.size) (fun iv _ => zn - (intOf iv).toNat)
 case atStart => exact ⟨0, [], _, Nat.zero_le _, rfl, I1, ZDone.first (by rw [Array.length_toList]; exact hSZ.out), Nat.le_of_eq HS.out.symm⟩
 case round =>
  obtain ⟨k, done, CZ, hk, rfl, I, D, hS1⟩ := hrel
  by_cases hlt : k < zn
  ·clear p0 p1 p3 p4 I1
   obtain ⟨b, off, z, fo, fn, fc, to_, tn, tc, ha, c0, c1, c2, c3, hat, hz⟩ := ((h.zones.below hb0).below I.b).at k hlt
   dsimp only at ha hz
   subst ha
   have hbb := below_box wr (.cells #[.int .i64 z.f, .int .i64 z.t, .slice fo fn fc, .slice to_ tn tc] 54)
   have ZB := zbox_new wr (.int .i64 z.f) (.int .i64 z.t) (.slice fo fn fc) (.slice to_ tn tc) 54
   have Ib := I.below hbb
   have Db := D.below hbb
   have atb := hat.below hbb
   obtain ⟨Wb, hWb⟩ : ∃ Wb, wr.alloc (.cells #[.int .i64 z.f, .int .i64 z.t, .slice fo fn fc, .slice to_ tn tc] 54) = Wb := ⟨_, rfl⟩
   rw [hWb] at hbb ZB Ib Db atb
   have HWb : Hid _ := hWb
   have hS2 : S ≤ Wb.heap.size := Nat.le_trans hS1 hbb.size
   clear hWb
   go_wp2_with (rw [HWb.out])
   clear HWb c0 c1 c2 c3 hat I D
   have SB : Below Wb.heap.size Wb { Wb with drawn := Wb.drawn + 1 } := (Below.refl Wb.heap.size Wb).drew
   have m0 : ∀ wx, Below Wb.heap.size Wb wx → wx.cell? ⟨X, 0, none⟩ = some (.slice (some ⟨gz, 0, none⟩) zn zn) := fun wx h => keep Ib.box.c0 h
   have m1 : ∀ wx, Below Wb.heap.size Wb wx → wx.cell? ⟨wr.heap.size, 0, none⟩ = some (.int .i64 z.f) := fun wx h => keep ZB.c0 h
   have m2 : ∀ wx, Below Wb.heap.size Wb wx → wx.cell? ⟨wr.heap.size, 1, none⟩ = some (.int .i64 z.t) := fun wx h => keep ZB.c1 h
   have m3 : ∀ wx, Below Wb.heap.size Wb wx → wx.cell? ⟨wr.heap.size, 2, none⟩ = some (.slice fo fn fc) := fun wx h => keep ZB.c2 h
   have m4 : ∀ wx, Below Wb.heap.size Wb wx → wx.cell? ⟨wr.heap.size, 3, none⟩ = some (.slice to_ tn tc) := fun wx h => keep ZB.c3 h
   refine wp_region_peel (S := fun wx => Below Wb.heap.size Wb wx) 6 _ (by kernel_rfl) (by kernel_rfl) rfl ?_
   simp only [List.take_succ_cons, List.take_zero]
   refine tkH 0 (.pointer (some ⟨X, 0, none⟩)) SB (h:=?_)
   refine tkH 1 (.slice (some ⟨gz, 0, none⟩) zn zn) SB (h:=?_)
   refine tkH 2 (.int .i64 (k : Int)) SB (h:=?_)
   refine tkH 3 (.agg #[.int .i64 z.f, .int .i64 z.t, .slice fo fn fc, .slice to_ tn tc]) SB (h:=?_)
   refine oneH 4 (by kernel_rfl) rfl rfl (fun K1 hK1 => ?_)
   go_simp
   refine (zCopy_own _ fo fn fc to_ tn tc z (atb.below SB)).mono ?_
   rintro e wA ⟨g, kk, rfl, o1, o2, _, hbA⟩
   have SA : Below Wb.heap.size Wb wA := SB.trans (hbA.mono SB.size)
   refine hK1 _ _ SA ?_
   try simp only [Act.put, List.setIfInBounds_toArray, List.set_cons_zero, List.set_cons_succ]
   refine tkH 5 (.pointer (some ⟨gz, k * 4, none⟩)) SA (h:=?_)
   refine wpAnyH_done (by kernel_rfl) ?_ _
   show Oper.wp _ _ _ _ _ _
   have IA := Ib.below SA
   have DA := Db.below SA
   have atA : ZnAt wA (some ⟨g, 0, none⟩) fn (some ⟨kk, 0, none⟩) tn z := ⟨blks_own o1 atb.free.reach, nums_of_owns o2 atb.types.reach⟩
   have fA1 : Fresh S (some ⟨g, 0, none⟩) := (owns_fresh o1).mono hS2
   have fA2 : Fresh S (some ⟨kk, 0, none⟩) := (owns_fresh o2).mono hS2
   obtain ⟨⟨_, e0⟩, ⟨_, e1⟩, ⟨_, e2⟩, ⟨_, e3⟩, hfz⟩ := row_res4 IA.rz DA.clen hlt
   have z0 := hfz (k * 4)
   have z1 := hfz (k * 4 + 1)
   have z2 := hfz (k * 4 + 2)
   have z3 := hfz (k * 4 + 3)
   have hbt := but_set4 wA gz (k * 4) (.int .i64 z.f) (.int .i64 z.t) (.slice (some ⟨g, 0, none⟩) fn fn) (.slice (some ⟨kk, 0, none⟩) tn tn)
   have I2 := IA.setZ FV hs0.out rfl hbt (row_set4 IA.rz (k * 4) _ _ _ _)
   have D2 := DA.next (fc := fn) (tc := tn) hlt h.zones.len (by rw [hz.out]) hbt FV.z2 atA fA1 fA2
   have hS3 : S ≤ ((((wA.setCell ⟨gz, k * 4, none⟩ (.int .i64 z.f)).setCell ⟨gz, k * 4 + 1, none⟩ (.int .i64 z.t)).setCell ⟨gz, k * 4 + 2, none⟩ (.slice (some ⟨g, 0, none⟩) fn fn)).setCell ⟨gz, k * 4 + 3, none⟩ (.slice (some ⟨kk, 0, none⟩) tn tn)).heap.size := Nat.le_trans hS2 (Nat.le_trans SA.size hbt.size)
   obtain ⟨V1, hV1⟩ : ∃ V1, (((wA.setCell ⟨gz, k * 4, none⟩ (.int .i64 z.f)).setCell ⟨gz, k * 4 + 1, none⟩ (.int .i64 z.t)).setCell ⟨gz, k * 4 + 2, none⟩ (.slice (some ⟨g, 0, none⟩) fn fn)).setCell ⟨gz, k * 4 + 3, none⟩ (.slice (some ⟨kk, 0, none⟩) tn tn) = V1 := ⟨_, rfl⟩
   rw [hV1] at I2 D2 hS3
   have HV1 : Hid _ := hV1
   clear hV1 hbt hK1 m0 m1 m2 m3 m4 IA DA atA Ib Db ZB SA SB o1 o2 hfz hbb
   go_wp2_with (rw [HV1.out])
   go_roundw
   case rel => exact ⟨k + 1, _, _, by omega, by go_num, I2, D2, hS3⟩
   case measure => simp [intOf]; omega
  obtain rfl : zn = k := by omega
  obtain ⟨E1, E2⟩ := D.all h.zones.len
  have HE1 : Hid _ := E1
  have HE2 : Hid _ := E2
  clear I1 p0 p1 p3 p4 hlt hk E1 E2
  have p1 := I.hin.c1
  have p3 := I.hin.c3
  have y1 := I.box.c1
  obtain ⟨CT, hCT⟩ : ∃ CT, CT = vals mins := ⟨_, rfl⟩
  have lT : CT.length = mn * 1 := by rw [hCT, length_vals]; have := h.mins.len; dsimp only at this; omega
  have oT : ∀ v ∈ CT, v.oneCell' = true := by rw [hCT]; exact vals_oneCell _
  have HST : Hid (∀ W, Below W0.heap.size W0 W → 0 < mn → ∃ ad, mo = some ad ∧ ∀ j v, CT[j]? = some v → W.cell? (ad.add j) = some v) := fun W hW h0 => by
   rw [hCT]
   exact src_of ((h.mins.below hb0).below hW).at_ (by have := h.mins.len; dsimp only at this ⊢; omega)
  have HCT : Hid _ := hCT
  clear hCT
  go_wp2_with (refine wpList_copy_k rfl (.tmp 43) (.tmp 45) 30 30 rfl 3 1 Tryz.underlying30 size_int _ _ _ _ _ _ rfl rfl gm 0 MM.toList 3 I.rm CT mn (Nat.min_self _) lT (fun h0 => ⟨rfl, HST.out _ I.b h0⟩) (by simp only [Array.length_toList]; rw [lT, hSM.out]; omega) oT ?_; intro w2 hg2 hb2; have I2 := I.setM FV hs0.out rfl hb2 hg2.out; have D2 := D.but hb2 FV.m2; have hS2 := Nat.le_trans hS1 hb2.size; clear I D p1 p3 y1 hg2 hb2 hS1; have p3 := I2.hin.c3)
  rw [splice_all (by rw [Array.length_toList, hSM.out, lT])] at I2
  clear HST lT oT
  go_loopw [50] (fun iv wr => ∃ (k : Nat) (ld : List Lc) (CL : List Value), k ≤ ln ∧ iv = .int .i64 k ∧ HcI W0 w.heap.size ⟨zs, zo, zn, zc, mins, mo, mn, mc, cpus, ls, lo, ln, lc, live, vo, vn, vc⟩ X gz gm gl gv CZ CT CL MV.toList wr ∧ ZDone S zn zn zs done CZ wr ∧ LDone S ln k ls ld CL wr ∧ S ≤ wr.heap.size) (fun iv _ => ln - (intOf iv).toNat)
  case atStart => exact ⟨0, [], _, Nat.zero_le _, rfl, I2, D2, LDone.first (by rw [Array.length_toList]; exact hSL.out), hS2⟩
  case round =>
   obtain ⟨k, ld, CL, hk, rfl, I, D, LD, hS1⟩ := hrel
   clear I2 D2 p3 hS2
   by_cases hlt : k < ln
   ·obtain ⟨b, off, c, z, t, pages, po, pn, pc, ha, c0, c1, c2, c3, hat, hz⟩ := (h.lists.below hb0).at k hlt
    dsimp only at ha hz
    subst ha
    replace c0 := keep c0 I.b
    replace c1 := keep c1 I.b
    replace c2 := keep c2 I.b
    replace c3 := keep c3 I.b
    have hbb := below_box wr (.cells #[.int .i64 c, .int .i64 z, .int .i64 t, .slice po pn pc] 69)
    have ZB := zbox_new wr (.int .i64 c) (.int .i64 z) (.int .i64 t) (.slice po pn pc) 69
    have Ib := I.below hbb
    obtain ⟨Wb, hWb⟩ : ∃ Wb, wr.alloc (.cells #[.int .i64 c, .int .i64 z, .int .i64 t, .slice po pn pc] 69) = Wb := ⟨_, rfl⟩
    rw [hWb] at hbb ZB Ib
    have HWb : Hid _ := hWb
    have hS2 : S ≤ Wb.heap.size := Nat.le_trans hS1 hbb.size
    have gls := FV.l2
    obtain ⟨⟨_, e0⟩, ⟨_, e1⟩, ⟨_, e2⟩, ⟨_, e3⟩, hfz⟩ := row_res4 Ib.rl LD.clen hlt
    have z0 := hfz (k * 4)
    have z1 := hfz (k * 4 + 1)
    have z2 := hfz (k * 4 + 2)
    have z3 := hfz (k * 4 + 3)
    have hbt := but_set4 Wb gl (k * 4) (.int .i64 c) (.int .i64 z) (.int .i64 t) (.slice po pn pc)
    have I2 := Ib.setL FV hs0.out rfl hbt (row_set4 Ib.rl (k * 4) (.int .i64 c) (.int .i64 z) (.int .i64 t) (.slice po pn pc))
    have ZB2 := ZB.but hbt (by omega)
    have hBL : But gl wr _ := (But.of_below hbb).trans hbt
    have y3 := Ib.box.c3
    obtain ⟨V1, hV1⟩ : ∃ V1, (((Wb.setCell ⟨gl, k * 4, none⟩ (.int .i64 c)).setCell ⟨gl, k * 4 + 1, none⟩ (.int .i64 z)).setCell ⟨gl, k * 4 + 2, none⟩ (.int .i64 t)).setCell ⟨gl, k * 4 + 3, none⟩ (.slice po pn pc) = V1 := ⟨_, rfl⟩
    rw [hV1] at I2 ZB2 hBL
    have HV1 : Hid _ := hV1
    have zb0 := ZB.c0
    have zb1 := ZB.c1
    have zb2 := ZB.c2
    have zb3 := ZB.c3
    clear hWb hV1 hbt
    go_wp2_with (first | rw [HWb.out] | rw [HV1.out])
    clear HWb HV1 c0 c1 c2 c3 e0 e1 e2 e3 z0 z1 z2 z3 hfz zb0 zb1 zb2 zb3 y3 Ib ZB hbb
    have rp := hat.reach
    have mp : pn ≤ maxLen := by unfold maxLen; omega
    obtain ⟨MP, sP, hMP⟩ := made_b (P := Tryz.prog) Tryz.underlying30 (info_parts info_int).choose_spec.1 (info_parts info_int).choose_spec.2.1 pn (by rw [(info_parts info_int).choose_spec.2.2.2]; omega) mp
    rw [(info_parts info_int).choose_spec.2.2.1] at sP
    have hS3 : S ≤ V1.heap.size := Nat.le_trans hS1 hBL.size
    have SB : Below V1.heap.size V1 { V1 with drawn := V1.drawn + 1 } := (Below.refl V1.heap.size V1).drew
    have m0 : ∀ wx, Below V1.heap.size V1 wx → wx.cell? ⟨X, 3, none⟩ = some (.slice (some ⟨gl, 0, none⟩) ln ln) := fun wx h => keep I2.box.c3 h
    have m1 : ∀ wx, Below V1.heap.size V1 wx → wx.cell? ⟨wr.heap.size, 3, none⟩ = some (.slice po pn pc) := fun wx h => keep ZB2.c3 h
    refine wp_region_peel (S := fun wx => Below V1.heap.size V1 wx) 9 _ (by kernel_rfl) (by kernel_rfl) rfl ?_
    simp only [List.take_succ_cons, List.take_zero]
    refine tkH 0 (.pointer (some ⟨X, 3, none⟩)) SB (h:=?_)
    refine tkH 1 (.slice (some ⟨gl, 0, none⟩) ln ln) SB (h:=?_)
    refine tkH 2 (.int .i64 (k : Int)) SB (h:=?_)
    refine tkH 3 (.pointer (some ⟨wr.heap.size, 3, none⟩)) SB (h:=?_)
    refine tkH 4 (.slice po pn pc) SB (h:=?_)
    refine tkH 5 (.int .i64 (pn : Int)) SB (h:=?_)
    refine oneH 6 (by kernel_rfl) rfl rfl (fun K1 hK1 => ?_)
    have hrun := hMP { V1 with drawn := V1.drawn + 1 }
    go_simp
    have SA : Below V1.heap.size V1 (({ V1 with drawn := V1.drawn + 1 } : World).alloc (.cells MP 3)) := SB.alloc (Nat.le_refl _) _
    refine hK1 _ _ SA ?_
    try simp only [Act.put, List.setIfInBounds_toArray, List.set_cons_zero, List.set_cons_succ]
    have rP : (({ V1 with drawn := V1.drawn + 1 } : World).alloc (.cells MP 3)).heap[V1.heap.size]? = some (.cells MP.toList.toArray 3 (0, 0)) := by
     show (V1.heap.push _)[V1.heap.size]? = _
     rw [Array.getElem?_push, if_pos rfl]
    obtain ⟨wA, hwA⟩ : ∃ wA, (({ V1 with drawn := V1.drawn + 1 } : World).alloc (.cells MP 3)) = wA := ⟨_, rfl⟩
    have hwA' : (V1.alloc (.cells MP 3)).drew = wA := hwA
    rw [hwA] at rP SA
    rw [hwA']
    have I3 := I2.below SA
    have ZB3 := ZB2.below SA
    have hBA : But gl wr wA := hBL.trans (But.of_below SA)
    obtain ⟨pb, hpb⟩ : ∃ pb, V1.heap.size = pb := ⟨_, rfl⟩
    rw [hpb] at rP hS3 SA ⊢
    have hpw : wr.heap.size ≤ pb := by have := hBL.size; omega
    clear hrun hK1 m0 m1 hwA hwA' hpb SB
    refine tkH 7 (.pointer (some ⟨gl, k * 4, none⟩)) SA (h:=?_)
    refine tkH 8 (.pointer (some ⟨gl, k * 4 + 3, none⟩)) SA (h:=?_)
    refine wpAnyH_done (by kernel_rfl) ?_ _
    show Oper.wp _ _ _ _ _ _
    obtain ⟨_, _, _, ⟨_, e3⟩, hfz⟩ := row_res4 I3.rl (show _ = ln * 4 by simpa using LD.clen) hlt
    have z3 := hfz (k * 4 + 3)
    have hb3 := (But.refl gl wA).setCell (o := k * 4 + 3) (.slice (some ⟨pb, 0, none⟩) pn pn)
    have I4 := I3.setL FV hs0.out rfl hb3 (row_set1 I3.rl (k * 4 + 3) (.slice (some ⟨pb, 0, none⟩) pn pn))
    rw [List.set_set] at I4
    have ZB4 := ZB3.but hb3 (by omega)
    have rP4 := (hb3.block pb (lt_of_row rP) (by omega)).trans rP
    have hB4 := hBA.trans hb3
    obtain ⟨V4, hV4⟩ : ∃ V4, wA.setCell ⟨gl, k * 4 + 3, none⟩ (.slice (some ⟨pb, 0, none⟩) pn pn) = V4 := ⟨_, rfl⟩
    rw [hV4] at I4 ZB4 rP4 hB4
    have HV4 : Hid _ := hV4
    clear hV4 hb3 I3 I2 ZB3 ZB2 rP SA hBA hBL
    go_wp2_with (rw [HV4.out])
    clear HV4 e3 z3 hfz
    have SB : Below V4.heap.size V4 { V4 with drawn := V4.drawn + 1 } := (Below.refl V4.heap.size V4).drew
    have m0 : ∀ wx, Below V4.heap.size V4 wx → wx.cell? ⟨X, 3, none⟩ = some (.slice (some ⟨gl, 0, none⟩) ln ln) := fun wx h => keep I4.box.c3 h
    have m1 : ∀ wx, Below V4.heap.size V4 wx → wx.cell? ⟨wr.heap.size, 3, none⟩ = some (.slice po pn pc) := fun wx h => keep ZB4.c3 h
    have hcl := LD.clen
    have m2 : ∀ wx, Below V4.heap.size V4 wx → wx.cell? ⟨gl, k * 4 + 3, none⟩ = some (.slice (some ⟨pb, 0, none⟩) pn pn) := fun wx h => keep (by
     rw [cell_of_row _ _ _ _ _ _ I4.rl]
     simp only [List.getElem?_toArray]
     rw [List.getElem?_set_self (by simp; omega)]) h
    refine wp_region_peel (S := fun wx => Below V4.heap.size V4 wx) 8 _ (by kernel_rfl) (by kernel_rfl) rfl ?_
    simp only [List.take_succ_cons, List.take_zero]
    refine tkH 0 (.pointer (some ⟨X, 3, none⟩)) SB (h:=?_)
    refine tkH 1 (.slice (some ⟨gl, 0, none⟩) ln ln) SB (h:=?_)
    refine tkH 2 (.int .i64 (k : Int)) SB (h:=?_)
    refine tkH 3 (.pointer (some ⟨gl, k * 4, none⟩)) SB (h:=?_)
    refine tkH 4 (.pointer (some ⟨gl, k * 4 + 3, none⟩)) SB (h:=?_)
    refine tkH 5 (.slice (some ⟨pb, 0, none⟩) pn pn) SB (h:=?_)
    refine tkH 6 (.pointer (some ⟨wr.heap.size, 3, none⟩)) SB (h:=?_)
    refine tkH 7 (.slice po pn pc) SB (h:=?_)
    refine wpAnyH_done (by kernel_rfl) ?_ _
    show Oper.wp _ _ _ _ _ _
    have I5 := I4.below SB
    have at5 := hat.below I5.b
    have lP : (vals pages).length = pn * 1 := by rw [length_vals, hat.len]; omega
    refine oper_copy_k rfl (.tmp 74) (.tmp 76) 30 30 rfl 3 1 Tryz.underlying30 size_int (some ⟨pb, 0, none⟩) po pn pn pn pc (by simp [Act.eval]) (by simp [Act.eval]) pb 0 MP.toList 3 rP4 (vals pages) pn (Nat.min_self _) lP (fun h0 => ⟨rfl, src_of at5.at_ (by rw [hat.len]; exact h0)⟩) (by have e1 := lP; have e2 := sP; simp only [Array.length_toList]; omega) (vals_oneCell _) ?_
    intro w5 hg5 hb5
    have rP5 := hg5.out
    rw [splice_all (by rw [Array.length_toList, lP, sP])] at rP5
    have I6 := I5.newer FV hs0.out rfl hb5 hS3
    have oP := owns_of_row (base := S) rP5 hS3 lP mp
    have hB5 : But gl wr w5 := But.then_new (hB4.trans (But.of_below SB)) hb5 hpw
    have D5 := D.but hB5 gls
    have LD5 := LD.next hlt h.lists.len (by rw [hz.out]) hB5 gls (nums_of_owns oP rp) (owns_fresh oP) rfl
    have hS5 : S ≤ w5.heap.size := Nat.le_trans hS1 hB5.size
    clear I4 I5 at5 SB m0 m1 m2 rP4 hg5 hb5 rP5 oP ZB4 hB4 hB5
    go_wp2
    go_roundw
    case rel => exact ⟨k + 1, _, _, by omega, by go_num, I6, D5, LD5, hS5⟩
    case measure => simp [intOf]; omega
   obtain rfl : ln = k := by omega
   clear hlt hk
   have p4 := I.hin.c4
   have y0 := I.box.c0
   have y1 := I.box.c1
   have y2 := I.box.c2
   have y3 := I.box.c3
   have y4 := I.box.c4
   obtain ⟨CV, hCV⟩ : ∃ CV, CV = bvals live := ⟨_, rfl⟩
   have lT : CV.length = vn * 3 := by rw [hCV, length_bvals]; have := h.live.len; dsimp only at this; omega
   have oT : ∀ v ∈ CV, v.oneCell' = true := by rw [hCV]; exact bvals_oneCell _
   have HST : Hid (∀ W, Below W0.heap.size W0 W → 0 < vn → ∃ ad, vo = some ad ∧ ∀ j v, CV[j]? = some v → W.cell? (ad.add j) = some v) := fun W hW h0 => by
    rw [hCV]
    exact bsrc_of ((h.live.below hb0).below hW).at_ (by have := h.live.len; dsimp only at this ⊢; omega)
   have HCV : Hid _ := hCV
   clear hCV
   go_wp2_with (refine wpList_copy_k rfl (.tmp 80) (.tmp 82) 32 32 rfl 40 3 Tryz.underlying32 size_block _ _ _ _ _ _ rfl rfl gv 0 MV.toList 40 I.rv CV vn (Nat.min_self _) lT (fun h0 => ⟨rfl, HST.out _ I.b h0⟩) (by simp only [Array.length_toList]; rw [lT, hSV.out]; omega) oT ?_; intro w2 hg2 hb2; have I2 := I.setV FV hs0.out rfl hb2 hg2.out; have D2 := D.but hb2 FV.v2; have L2 := LD.but hb2 FV.v2; clear I D LD p4 y0 y1 y2 y3 y4 hg2 hb2 hS1; have y0 := I2.box.c0; have y1 := I2.box.c1; have y2 := I2.box.c2; have y3 := I2.box.c3; have y4 := I2.box.c4; have R2 := I2.res; have t0 := R2.c0; have t1 := R2.c1; have t2 := R2.c2; have t3 := R2.c3; have t4 := R2.c4; have f0 := R2.z0; have f1 := R2.z1; have f2 := R2.z2; have f3 := R2.z3; have f4 := R2.z4)
   rw [splice_all (by rw [Array.length_toList, hSV.out, lT])] at I2
   obtain ⟨O2, e2⟩ := I2.owns FV ((h.below hb0).below I2.b) D2 L2 HCT.out HCV.out
   have hbt := but5 w2 (w.heap.size + 1) (.slice (some ⟨gz, 0, none⟩) zn zn) (.slice (some ⟨gm, 0, none⟩) mn mn) (.int .i64 cpus) (.slice (some ⟨gl, 0, none⟩) ln ln) (.slice (some ⟨gv, 0, none⟩) vn vn)
   have R3 := R2.set5 (.slice (some ⟨gz, 0, none⟩) zn zn) (.slice (some ⟨gm, 0, none⟩) mn mn) (.int .i64 cpus) (.slice (some ⟨gl, 0, none⟩) ln ln) (.slice (some ⟨gv, 0, none⟩) vn vn)
   have O3 := (O2.but hbt (by rw [hs0.out]; omega)).weaken (B' := w.heap.size) (by rw [hs0.out]; omega)
   have hBf : Below w.heap.size w _ := (hb0.trans (I2.b.mono hb0.size)).trans (hbt.below (by omega) (by have := hb0.size; have := I2.b.size; omega))
   have k0 := R3.c0
   have k1 := R3.c1
   have k2 := R3.c2
   have k3 := R3.c3
   have k4 := R3.c4
   exact bodyPost_ret (v := .agg #[.slice (some ⟨gz, 0, none⟩) zn zn, .slice (some ⟨gm, 0, none⟩) mn mn, .int .i64 cpus, .slice (some ⟨gl, 0, none⟩) ln ln, .slice (some ⟨gv, 0, none⟩) vn vn]) (by simp [results, Tryz.results41, go_sem, k0, k1, k2, k3, k4]) rfl ⟨⟨gz, gl, gv, _, rfl, e2, O3⟩, hBf⟩
end Go.Proofs.YtjohdbiipeedkaaGreatDoor
