/-
  OWN TEXTS.
-/
import Derived.Test.YtjohdbiipeedkabGreatDoorPagesBadPart12
set_option maxRecDepth 10000
set_option maxHeartbeats 4000000
namespace Go.Proofs.YtjohdbiipeedkabGreatDoor
open Go Go.RowKit Go.Proofs.YtjohdbiipeedkabGreatDoor.Kit
theorem zGive_some (w : World) (foz : Option Addr) (fn fc : Nat) (to_ : Option Addr) (tn tc : Nat) (z : Zn) (a s : Int) (h : ZnAt w foz fn to_ tn z) (hM : ZMay z) (hr : giveOk z a s) {Y : Zn} (hG : giveK s.toNat z a = some Y) :
    Calls Tryz.prog 52 #[.agg #[.int .i64 z.f, .int .i64 z.t, .slice foz fn fc, .slice to_ tn tc], .int .i64 a, .int .i64 s] w fun e w' => RetZone w.heap.size w' Y e ∧ Below w.heap.size w w' := by
 refine (zGive_do w foz fn fc to_ tn tc z a s h hM hr _ hG).mono ?_
 rintro e w' ⟨⟨Z, e1, h1⟩ | ⟨e1, _⟩, hb⟩
 ·cases e1
  exact ⟨h1, hb⟩
 cases e1
theorem pNewZone_ok (w : World) (zf zt : Int) (ao : Option Addr) (n cap : Nat) (l : List (Int × Int)) (hR : Regs w ao n l) (hM : MayP l) (hn : newOk zf zt) :
    Calls Tryz.prog 30 #[.int .i64 zf, .int .i64 zt, .slice ao n cap] w fun e w' => (∃ Z foz fn fc to_ tn tc, e = .returned (.tuple #[.agg #[.int .i64 Z.f, .int .i64 Z.t, .slice foz fn fc, .slice to_ tn tc], .int .i64 0]) ∧ ZNew Z zf zt (inZ l zf zt) ∧ ZnAt w' foz fn to_ tn Z ∧ OffZ (fun q => w.heap.size ≤ q) foz to_ Z) ∧ Below w.heap.size w w' := by
 obtain ⟨Z0, hZ0, HZ0⟩ : ∃ Z0, ZNew Z0 zf zt (inZ (l.take 0) zf zt) ∧ ∀ W, Calls Tryz.prog 51 #[.int .i64 zf, .int .i64 zt] W fun e w' => RetZone W.heap.size w' Z0 e ∧ Below W.heap.size W w' :=
  ⟨newZ zf zt, (znew_zero hn).congr (fun p => by simp [inZ, inL]), fun W => zNew_ok W zf zt hn⟩
 have B0 := Below.refl w.heap.size w
 refine sx_enter (args := [_, _, _]) 59 Tryz.func30 rfl rfl rfl ?_
 refine vS (vR ?_); intro A f
 refine l_alloc (z := .agg #[.int .i64 0, .int .i64 0, .slice none 0 0, .slice none 0 0]) f rfl rfl rfl rfl (by kernel_rfl) ?_; clear f A; intro b1 W2 eb1 hb3 rb1 A f; dsimp only [Value.cells] at rb1
 have z_B0_b1 := B0.size; rw [eb1] at z_B0_b1
 replace B0 := Below.next B0 hb3
 revert A; refine vla (h:=vW (vS (vR (vlm (h:=vlm (h:=?_))))))
 have lz_b1 := row_lt rb1
 have lzB := B0.size
 intro A f
 refine l_call f rfl rfl rfl (IsCall.mk' (cap := []) rfl rfl rfl) (pl rfl) (HZ0 _) ?_
 clear f A
 rintro _ W4 ⟨⟨fo0, fn0, fc0, to0, tn0, tc0, rfl, hz, hf0, ht0⟩, hb5⟩
 refine ⟨_, rfl, ?_⟩
 intro A f
 replace B0 := Below.next B0 hb5; replace rb1 := row_next rb1 hb5
 revert A; refine vlm (h:=?_)
 have hzl := hz
 refine vle (h:=vle (h:=?_)); intro A f
 refine l_as (z := .agg #[.int .i64 0, .int .i64 0, .slice none 0 0, .slice none 0 0]) f rfl rfl rfl rfl (by kernel_rfl) rfl rfl (fun _ => rfl) (fun _ => rfl) rfl (by intro u hu; simp [Value.cells] at hu; rcases hu with rfl | rfl | rfl | rfl <;> rfl) ?_; clear f A; intro b6 W7 eb6 hb8 rb6 A f
 dsimp only [Value.cells] at rb6
 have hpb6 := hb8
 have o_b1_b6 : b1 < b6 := by have := row_lt rb1; omega
 have z_B0_b6 := B0.size; rw [eb6] at z_B0_b6
 replace B0 := Below.next B0 hb8; replace hz := hz.below hb8; replace rb1 := row_next rb1 hb8
 revert A; refine vla (h:=vW (vS (vS (vR ?_))))
 have hof : OffZ (fun q => w.heap.size ≤ q ∧ q ≠ b1 ∧ q ≠ b6) fo0 to0 Z0 := ⟨fun h a ha => by have h1 := hf0 a ha; have h2 := blks_lt hzl.free h a ha; omega, fun h a ha => by have h1 := ht0 a ha; have h2 := nums_lt hzl.types h a ha; omega⟩
 refine vlm (h:=vlb (y_neq rfl rfl rfl) (h:=?_) (g:=?_))
 ·intro c9; exfalso; omega
 intro c9
 refine vW (vD (h:=vK (vT (vS (vS (vR (vlm (h:=vlz (h:=vlm (h:=vW (vB ?_)))))))))))
 have hl := hR.len
 have hr := hR.reach
 intro A f
 refine x_loop (fun m A W => ∃ (k : Nat) (Z : Zn) (foz : Option Addr) (fn fc : Nat) (to_ : Option Addr) (tn tc : Nat), m = n - k ∧ k ≤ n ∧ Fr A 59 [(0, .int .i64 zf), (1, .int .i64 zt), (6, .pointer (some ⟨b1, 0, none⟩)), (8, .pointer (some ⟨b6, 0, none⟩)), (24, .slice ao n cap), (25, .int .i64 (n : Nat)), (26, .int .i64 (k : Nat))] ∧ Below w.heap.size w W ∧ ZNew Z zf zt (inZ (l.take k) zf zt) ∧ ZnAt W foz fn to_ tn Z ∧ OffZ (fun q => w.heap.size ≤ q ∧ q ≠ b1 ∧ q ≠ b6) foz to_ Z ∧ W.heap[b6]? = some (.cells #[.int .i64 Z.f, .int .i64 Z.t, .slice foz fn fc, .slice to_ tn tc] 77 (0, 0)) ∧ W.heap[b1]? = some (.cells #[.int .i64 0, .int .i64 0, .slice none 0 0, .slice none 0 0] 77 (0, 0))) (n0 := n) (⟨0, Z0, fo0, fn0, fc0, to0, tn0, tc0, rfl, Nat.zero_le _, f.sub ⟨rfl, rfl, rfl, rfl, rfl, rfl, rfl, trivial⟩, B0, hZ0, hz, hof, rb6, rb1⟩) ?_
 clear f A
 clear B0 hz hof rb1 rb6 hf0 ht0
 rintro m A W10 ⟨k, Z, foz, fn, fc, to_, tn, tc, hm, hk, f, B0, hZ, hz, hof, rb6, rb1⟩
 revert A; refine vS (vR (vlb (y_lss rfl rfl rfl) (h:=?_) (g:=?_)))
 ·intro c11
  refine vW (vS (vC (h:=vK (vT (vS (vB (vS (vR ?_))))))))
  obtain ⟨gr, xr, x, y, har, c0r, c1r, hXr⟩ := hR.at_.at k (by omega)
  replace c0r := St.of c0r; replace c1r := St.of c1r
  have hok := hM.ok k (by omega)
  intro A f
  rw [hXr.out] at hok
  unfold regOk at hok
  dsimp only at hok
  obtain ⟨s1, s2⟩ := znew_step hM hZ (by omega) hXr.out
  revert A; refine vlx (h:=vld (y_loadN (vs := [_, _]) rfl rfl (ag rfl) rfl ⟨(by first | assumption | exact St.q c0r B0 | exact St.q c1r B0), (by first | assumption | exact St.q c0r B0 | exact St.q c1r B0), trivial⟩) (h:=?_)); intro A f
  refine l_as (z := .agg #[.int .i64 0, .int .i64 0]) f rfl rfl rfl rfl (by kernel_rfl) rfl rfl (fun _ => rfl) (fun _ => rfl) rfl (by intro u hu; simp [Value.cells] at hu; rcases hu with rfl | rfl <;> rfl) ?_; clear f A; intro b12 W13 eb12 hb14 rb12 A f
  dsimp only [Value.cells] at rb12
  have hpb12 := hb14
  have o_b1_b12 : b1 < b12 := by have := row_lt rb1; omega
  have o_b6_b12 : b6 < b12 := by have := row_lt rb6; omega
  have z_B0_b12 := B0.size; rw [eb12] at z_B0_b12
  replace B0 := Below.next B0 hb14; replace hz := hz.below hb14; replace rb1 := row_next rb1 hb14; replace rb6 := row_next rb6 hb14
  revert A; refine vW (vS ?_); intro A f
  refine sx_quiet (by kernel_rfl) (by kernel_rfl) ?_
  revert A; refine vqf (h:=vq1 (rowq rb12) (h:=vqm (h:=vqd (y_max rfl rfl rfl) (h:=vqf (h:=vq1 (rowq rb12) (h:=vqf (h:=vq1 (rowq rb12) (h:=vqA (h:=vqm (h:=vqd (y_min rfl rfl rfl) (h:=vqa (h:=vqa (h:=vQ ?_))))))))))))); intro W16 hb15; replace B0 := Below.next B0 hb15; replace hz := hz.below hb15; replace rb1 := row_next rb1 hb15; replace rb6 := row_next rb6 hb15; replace rb12 := row_next rb12 hb15
  refine vT (vS (vS (vR (vlm (h:=vlm (h:=vlb (y_geq rfl rfl rfl) (h:=?_) (g:=?_)))))))
  ·intro c17
   refine vW (vC (h:=vX (vH (vI (vT (vR (vlA (h:=vlm (h:=vW ?_))))))))); intro A f
   exact ⟨n - (k + 1), by omega, k + 1, Z, foz, fn, fc, to_, tn, tc, rfl, by omega, f.sub ⟨rfl, rfl, rfl, rfl, rfl, rfl, rfl, trivial⟩, B0, s2 (by omega), hz, hof, rb6, rb1⟩
  intro c17
  refine vW (vD (h:=vK (vT (vS (vR ?_)))))
  obtain ⟨hg, Y, hY, hZ2⟩ := s1 (by omega)
  refine vl4 (rowq rb6) (h:=vlm (h:=vlm (h:=vlm (h:=vld (y_sub rfl rfl rfl rfl (by omega)) (h:=?_)))))
  have lz_b1 := row_lt rb1
  have lz_b6 := row_lt rb6
  have lz_b12 := row_lt rb12
  have lzB := B0.size
  intro A f
  refine l_call f rfl rfl rfl (IsCall.mk' (cap := []) rfl rfl rfl) (pl rfl) (zGive_some _ foz fn fc to_ tn tc Z _ _ hz hZ.may hg hY) ?_
  clear f A
  rintro _ W18 ⟨⟨fo2, fn2, fc2, to2, tn2, tc2, rfl, hz2, hf2, ht2⟩, hb19⟩
  refine ⟨_, rfl, ?_⟩
  intro A f
  replace B0 := Below.next B0 hb19; replace hz := hz.below hb19; replace rb1 := row_next rb1 hb19; replace rb6 := row_next rb6 hb19; replace rb12 := row_next rb12 hb19
  have hof2 : OffZ (fun q => w.heap.size ≤ q ∧ q ≠ b1 ∧ q ≠ b6) fo2 to2 Y := ⟨fun _ a ha => by have := hf2 a ha; omega, fun _ a ha => by have := ht2 a ha; omega⟩
  revert A; refine vlm (h:=vle (h:=vle (h:=?_))); intro A f
  refine vls f rb6 ?_
  clear rb6; intro W20 hb21 rb6; dsimp only [setL, over, Value.cells] at rb6; replace B0 := Below.thenBut B0 hb21 (by omega); replace rb1 := But.row hb21 rb1 (by omega); replace rb12 := But.row hb21 rb12 (by omega); replace hz2 := zn_but hz2 hb21 (fun h a ha => (hof2.f h a ha).2.2) (fun h a ha => (hof2.t h a ha).2.2)
  revert A; refine vla (h:=vW (vS (vR (vlm (h:=vlb (y_neq rfl rfl rfl) (h:=?_) (g:=?_))))))
  ·intro c22; exfalso; omega
  intro c22
  refine vW (vD (h:=vK (vU (vT (vR (vlA (h:=vlm (h:=vW ?_)))))))); intro A f
  exact ⟨n - (k + 1), by omega, k + 1, Y, fo2, fn2, fc2, to2, tn2, tc2, rfl, by omega, f.sub ⟨rfl, rfl, rfl, rfl, rfl, rfl, rfl, trivial⟩, B0, hZ2, hz2, hof2, rb6, rb1⟩
 intro c11
 refine vW (vS (vD (h:=vX (vH (vH (vI (vT (vS (vR (vl4 (rowq rb6) (h:=?_))))))))))); intro A f
 refine vls f rb1 ?_
 clear rb1; intro W23 hb24 rb1; dsimp only [setL, over, Value.cells] at rb1; replace B0 := Below.thenBut B0 hb24 (by omega); replace rb6 := But.row hb24 rb6 (by omega); replace hz := zn_but hz hb24 (fun h a ha => (hof.f h a ha).2.1) (fun h a ha => (hof.t h a ha).2.1)
 revert A; refine vla (h:=vW (vE ?_)); intro A f
 refine x_retc1 f rfl rfl rfl (ag rfl) rb1 rfl ?_
 have ek : k = n := by omega
 rw [ek, List.take_of_length_le (by omega)] at hZ
 exact ⟨⟨Z, foz, fn, fc, to_, tn, tc, rfl, hZ, hz, fun h a ha => (hof.f h a ha).1, fun h a ha => (hof.t h a ha).1⟩, B0⟩
theorem newX_fresh {B gz gm : Nat} {least cpus : Int} {z0 z1 : Zc} (h1 : B ≤ gz) (h2 : B ≤ gm) (o0 : OffZ (fun q => B ≤ q) z0.fo z0.to_ z0.z) (o1 : OffZ (fun q => B ≤ q) z1.fo z1.to_ z1.z) : FreshH B (newX z0 z1 gz gm least cpus) := by
 intro b hb
 refine ⟨⟨fun z hz h0 a ha => ?_, fun z hz h0 a ha => ?_, fun _ a ha => ?_, fun h0 => absurd h0 (Nat.lt_irrefl 0), fun l hl => (by cases hl), fun h0 => absurd h0 (Nat.lt_irrefl 0)⟩, fun a ha => ?_⟩
 ·have hz' : z ∈ [z0, z1] := hz
  simp only [List.mem_cons, List.not_mem_nil, or_false] at hz'
  rcases hz' with rfl | rfl
  ·have := o0.f h0 a ha; omega
  have := o1.f h0 a ha; omega
 ·have hz' : z ∈ [z0, z1] := hz
  simp only [List.mem_cons, List.not_mem_nil, or_false] at hz'
  rcases hz' with rfl | rfl
  ·have := o0.t h0 a ha; omega
  have := o1.t h0 a ha; omega
 ·have ha' : some (⟨gm, 0, none⟩ : Addr) = some a := ha
  cases ha'
  dsimp only
  omega
 have ha' : some (⟨gz, 0, none⟩ : Addr) = some a := ha
 cases ha'
 dsimp only
 omega
theorem pIsMin_c (w : World) (x : Int) : Calls Tryz.prog 31 #[.int .i64 x] w fun e w' => e = .returned (.bool (decide (0 ≤ x ∧ x ≤ 256))) ∧ Below w.heap.size w w' := c_same (pIsMin_any w x)
theorem pAreCpus_c (w : World) (x : Int) : Calls Tryz.prog 32 #[.int .i64 x] w fun e w' => e = .returned (.bool (decide (1 ≤ x ∧ x ≤ 4))) ∧ Below w.heap.size w w' := c_same (pAreCpus_any w x)
theorem pNew_fr (w : World) (split least cpus : Int) (ao : Option Addr) (n cap : Nat) (l : List (Int × Int)) (hR : Regs w ao n l) (hM : MayP l) (hn0 : newOk 0 split) :
    Calls Tryz.prog 12 #[.slice ao n cap, .int .i64 split, .int .i64 least, .int .i64 cpus] w fun e w' => ((¬ newGood least cpus ∧ e = .returned (.tuple #[.agg #[.slice none 0 0, .slice none 0 0, .int .i64 0, .slice none 0 0, .slice none 0 0], .int .i64 1])) ∨ (newGood least cpus ∧ ∃ y : Hx, e = .returned (.tuple #[.agg #[.slice y.zo y.zn y.zc, .slice y.mo y.mn y.mc, .int .i64 y.cpus, .slice y.lo y.ln y.lc, .slice y.vo y.vn y.vc], .int .i64 0]) ∧ NewH y.hp l split least cpus ∧ y.At w' ∧ FreshH w.heap.size y)) ∧ Below w.heap.size w w' := by
 have hn1 := newOk_high hn0
 have B0 := Below.refl w.heap.size w
 refine sx_enter (args := [_, _, _, _]) 58 Tryz.func12 rfl rfl rfl ?_
 refine vS (vR ?_); intro A f
 refine l_alloc (z := .agg #[.slice none 0 0, .slice none 0 0, .int .i64 0, .slice none 0 0, .slice none 0 0]) f rfl rfl rfl rfl (by kernel_rfl) ?_; clear f A; intro b1 W2 eb1 hb3 rb1 A f; dsimp only [Value.cells] at rb1
 have z_B0_b1 := B0.size; rw [eb1] at z_B0_b1
 replace B0 := Below.next B0 hb3
 revert A; refine vla (h:=vW (vS (vS (vR (vlm (h:=vld (y_build #[.slice ao n cap, .slice none 0 0] rfl rfl (by kernel_rfl)) (h:=vlc (cCheck_ok _ ao n cap l none 0 0 [] (hR.below B0) (regs_none _) ⟨hM, mayP_nil⟩) (h:=?_)))))))); intro W5 hb4; replace B0 := Below.next B0 hb4; replace rb1 := row_next rb1 hb4
 refine vla (h:=vW (vS (vR (vlm (h:=vlb (y_neq rfl rfl rfl) (h:=?_) (g:=?_))))))
 ·intro c6; exfalso; omega
 intro c6
 refine vW (vD (h:=vK (vT (vS (vR (vlm (h:=vlm (h:=?_))))))))
 have hb10 := B0.size
 have lz_b1 := row_lt rb1
 have lzB := B0.size
 intro A f
 refine l_call f rfl rfl rfl (IsCall.mk' (cap := []) rfl rfl rfl) (pl rfl) (pNewZone_ok _ 0 split ao n cap l (hR.below B0) hM hn0) ?_
 clear f A
 rintro _ W7 ⟨⟨Z0, foz0, fn0, fc0, to0, tn0, tc0, rfl, hZ0, hz0, ho0⟩, hb8⟩
 refine ⟨_, rfl, ?_⟩
 intro A f
 replace B0 := Below.next B0 hb8; replace rb1 := row_next rb1 hb8
 replace ho0 : OffZ (fun q => w.heap.size ≤ q ∧ q ≠ b1) foz0 to0 Z0 := ⟨fun h a ha => by have h1 := ho0.f h a ha; omega, fun h a ha => by have h1 := ho0.t h a ha; omega⟩
 revert A; refine vlm (h:=vle (h:=vle (h:=?_))); intro A f
 refine l_as (z := .agg #[.int .i64 0, .int .i64 0, .slice none 0 0, .slice none 0 0]) f rfl rfl rfl rfl (by kernel_rfl) rfl rfl (fun _ => rfl) (fun _ => rfl) rfl (by intro u hu; simp [Value.cells] at hu; rcases hu with rfl | rfl | rfl | rfl <;> rfl) ?_; clear f A; intro b9 W10 eb9 hb11 rb9 A f
 dsimp only [Value.cells] at rb9
 have hpb9 := hb11
 have o_b1_b9 : b1 < b9 := by have := row_lt rb1; omega
 have z_B0_b9 := B0.size; rw [eb9] at z_B0_b9
 replace B0 := Below.next B0 hb11; replace hz0 := hz0.below hb11; replace rb1 := row_next rb1 hb11
 revert A; refine vla (h:=vW (vS (vS (vR (vlm (h:=vlb (y_neq rfl rfl rfl) (h:=?_) (g:=?_)))))))
 ·intro c12; exfalso; omega
 intro c12
 refine vW (vD (h:=vK (vT (vS (vR (vlm (h:=vlm (h:=?_))))))))
 have hb11 := B0.size
 have lz_b1 := row_lt rb1
 have lz_b9 := row_lt rb9
 have lzB := B0.size
 intro A f
 refine l_call f rfl rfl rfl (IsCall.mk' (cap := []) rfl rfl rfl) (pl rfl) (pNewZone_ok _ split 256 ao n cap l (hR.below B0) hM hn1) ?_
 clear f A
 rintro _ W13 ⟨⟨Z1, foz1, fn1, fc1, to1, tn1, tc1, rfl, hZ1, hz1, ho1⟩, hb14⟩
 refine ⟨_, rfl, ?_⟩
 intro A f
 replace B0 := Below.next B0 hb14; replace hz0 := hz0.below hb14; replace rb1 := row_next rb1 hb14; replace rb9 := row_next rb9 hb14
 replace ho1 : OffZ (fun q => w.heap.size ≤ q ∧ q ≠ b1) foz1 to1 Z1 := ⟨fun h a ha => by have h1 := ho1.f h a ha; omega, fun h a ha => by have h1 := ho1.t h a ha; omega⟩
 revert A; refine vlm (h:=vle (h:=vle (h:=?_))); intro A f
 refine l_as (z := .agg #[.int .i64 0, .int .i64 0, .slice none 0 0, .slice none 0 0]) f rfl rfl rfl rfl (by kernel_rfl) rfl rfl (fun _ => rfl) (fun _ => rfl) rfl (by intro u hu; simp [Value.cells] at hu; rcases hu with rfl | rfl | rfl | rfl <;> rfl) ?_; clear f A; intro b15 W16 eb15 hb17 rb15 A f
 dsimp only [Value.cells] at rb15
 have hpb15 := hb17
 have o_b1_b15 : b1 < b15 := by have := row_lt rb1; omega
 have o_b9_b15 : b9 < b15 := by have := row_lt rb9; omega
 have z_B0_b15 := B0.size; rw [eb15] at z_B0_b15
 replace B0 := Below.next B0 hb17; replace hz0 := hz0.below hb17; replace hz1 := hz1.below hb17; replace rb1 := row_next rb1 hb17; replace rb9 := row_next rb9 hb17
 revert A; refine vla (h:=vW (vS (vS (vR (vlm (h:=vlb (y_neq rfl rfl rfl) (h:=?_) (g:=?_)))))))
 ·intro c18; exfalso; omega
 intro c18
 refine vW (vD (h:=vK (vT (vS (vS (vR (vlm (h:=?_)))))))); intro A f
 refine l_callif _ f rfl rfl rfl (IsCall.mk' (cap := []) rfl rfl rfl) (pl rfl) (pIsMin_c _ _) ?_ ?_
 ·clear f A; intro c19 W21 hb20 A f
  replace B0 := Below.next B0 hb20; replace hz0 := hz0.below hb20; replace hz1 := hz1.below hb20; replace rb1 := row_next rb1 hb20; replace rb9 := row_next rb9 hb20; replace rb15 := row_next rb15 hb20
  revert A; refine vln (h:=vlm (h:=vlm (h:=?_))); intro A f
  refine l_callif _ f rfl rfl rfl (IsCall.mk' (cap := []) rfl rfl rfl) (pl rfl) (pAreCpus_c _ _) ?_ ?_
  ·clear f A; intro c22 W24 hb23 A f
   replace B0 := Below.next B0 hb23; replace hz0 := hz0.below hb23; replace hz1 := hz1.below hb23; replace rb1 := row_next rb1 hb23; replace rb9 := row_next rb9 hb23; replace rb15 := row_next rb15 hb23
   revert A; refine vln (h:=vlp (h:=vW (vD (h:=vK (vT (vS (vR (vl4 (rowq rb9) (h:=vl4 (rowq rb15) (h:=?_))))))))))
   obtain ⟨gz, hgz⟩ : ∃ g, g = W24.heap.size := ⟨_, rfl⟩
   have lg_b1 := row_lt rb1
   have lg_b9 := row_lt rb9
   have lg_b15 := row_lt rb15
   have lg_w := B0.size
   intro A f
   refine l_opR (R := fun v W => v = .slice (some ⟨gz, 0, none⟩) 2 2 ∧ Below W24.heap.size W24 W ∧ W.heap[gz]? = some (.cells #[.int .i64 Z0.f, .int .i64 Z0.t, .slice foz0 fn0 fc0, .slice to0 tn0 tc0, .int .i64 Z1.f, .int .i64 Z1.t, .slice foz1 fn1 fc1, .slice to1 tn1 tc1] 77 (0, 0))) f rfl rfl rfl ⟨_, _, bs_exec f rfl rfl (bs_zone2 _ _ _ _ _ _ _ _ _), by rw [hgz], (Below.refl _ _).alloc (Nat.le_refl _) _, by rw [hgz]; show (Array.push _ _)[_]? = _; rw [Array.getElem?_push, if_pos rfl]⟩ ?_
   clear f A
   rintro _ W25 ⟨rfl, hb26, rgz⟩ A f
   replace B0 := Below.next B0 hb26; replace hz0 := hz0.below hb26; replace hz1 := hz1.below hb26; replace rb1 := row_next rb1 hb26; replace rb9 := row_next rb9 hb26; replace rb15 := row_next rb15 hb26
   revert A; refine vlm (h:=vlm (h:=?_))
   obtain ⟨gm, hgm⟩ : ∃ g, g = W25.heap.size := ⟨_, rfl⟩
   have lm_b1 := row_lt rb1
   have lm_b9 := row_lt rb9
   have lm_b15 := row_lt rb15
   have lm_gz := row_lt rgz
   intro A f
   refine l_opR (R := fun v W => v = .slice (some ⟨gm, 0, none⟩) 2 2 ∧ Below W25.heap.size W25 W ∧ W.heap[gm]? = some (.cells #[.int .i64 least, .int .i64 least] 3 (0, 0))) f rfl rfl rfl ⟨_, _, bs_exec f rfl rfl (bs_int2 _ _ _), by rw [hgm], (Below.refl _ _).alloc (Nat.le_refl _) _, by rw [hgm]; show (Array.push _ _)[_]? = _; rw [Array.getElem?_push, if_pos rfl]⟩ ?_
   clear f A
   rintro _ W27 ⟨rfl, hb28, rgm⟩ A f
   replace B0 := Below.next B0 hb28; replace hz0 := hz0.below hb28; replace hz1 := hz1.below hb28; replace rb1 := row_next rb1 hb28; replace rb9 := row_next rb9 hb28; replace rb15 := row_next rb15 hb28; replace rgz := row_next rgz hb28
   revert A; refine vlm (h:=vld (y_build #[.slice (some ⟨gz, 0, none⟩) 2 2, .slice (some ⟨gm, 0, none⟩) 2 2, .int .i64 cpus, .slice none 0 0, .slice none 0 0] rfl rfl (by kernel_rfl)) (h:=?_)); intro A f
   refine vls f rb1 ?_
   clear rb1; intro W29 hb30 rb1; dsimp only [setL, over, Value.cells] at rb1; replace B0 := Below.thenBut B0 hb30 (by omega); replace rb9 := But.row hb30 rb9 (by omega); replace rb15 := But.row hb30 rb15 (by omega); replace rgz := But.row hb30 rgz (by omega); replace rgm := But.row hb30 rgm (by omega); replace hz0 := zn_but hz0 hb30 (fun h a ha => (ho0.f h a ha).2) (fun h a ha => (ho0.t h a ha).2); replace hz1 := zn_but hz1 hb30 (fun h a ha => (ho1.f h a ha).2) (fun h a ha => (ho1.t h a ha).2)
   revert A; refine vla (h:=vW (vE ?_)); intro A f
   refine x_retc1 f rfl rfl rfl (ag rfl) rb1 rfl ?_
   exact ⟨.inr ⟨⟨c19, c22⟩, newX ⟨Z0, foz0, fn0, fc0, to0, tn0, tc0⟩ ⟨Z1, foz1, fn1, fc1, to1, tn1, tc1⟩ gz gm least cpus, rfl, ⟨Z0, Z1, hZ0, hZ1, rfl⟩, newX_at rgz rgm hz0 hz1, newX_fresh (by omega) (by omega) ⟨fun h a ha => (ho0.f h a ha).1, fun h a ha => (ho0.t h a ha).1⟩ ⟨fun h a ha => (ho1.f h a ha).1, fun h a ha => (ho1.t h a ha).1⟩⟩, B0⟩
  clear f A; intro c22 W24 hb23 A f
  replace B0 := Below.next B0 hb23; replace hz0 := hz0.below hb23; replace hz1 := hz1.below hb23; replace rb1 := row_next rb1 hb23; replace rb9 := row_next rb9 hb23; replace rb15 := row_next rb15 hb23
  revert A; refine vln (h:=vlp (h:=vW (vC (h:=vS (vR (vld (y_build #[.slice none 0 0, .slice none 0 0, .int .i64 0, .slice none 0 0, .slice none 0 0] rfl rfl (by kernel_rfl)) (h:=?_))))))); intro A f
  refine vls f rb1 ?_
  clear rb1; intro W31 hb32 rb1; dsimp only [setL, over, Value.cells] at rb1; replace B0 := Below.thenBut B0 hb32 (by omega); replace rb9 := But.row hb32 rb9 (by omega); replace rb15 := But.row hb32 rb15 (by omega); replace hz0 := zn_but hz0 hb32 (fun h a ha => (ho0.f h a ha).2) (fun h a ha => (ho0.t h a ha).2); replace hz1 := zn_but hz1 hb32 (fun h a ha => (ho1.f h a ha).2) (fun h a ha => (ho1.t h a ha).2)
  revert A; refine vla (h:=vW (vE (vF ?_))); intro A f
  refine x_retc1 f rfl rfl rfl (ag rfl) rb1 rfl ?_
  exact ⟨.inl ⟨fun h => c22 h.2, rfl⟩, B0⟩
 clear f A; intro c19 W21 hb20 A f
 replace B0 := Below.next B0 hb20; replace hz0 := hz0.below hb20; replace hz1 := hz1.below hb20; replace rb1 := row_next rb1 hb20; replace rb9 := row_next rb9 hb20; replace rb15 := row_next rb15 hb20
 revert A; refine vln (h:=vlm (h:=vlO 3 (h:=vlp (h:=vW (vC (h:=vS (vR (vld (y_build #[.slice none 0 0, .slice none 0 0, .int .i64 0, .slice none 0 0, .slice none 0 0] rfl rfl (by kernel_rfl)) (h:=?_))))))))); intro A f
 refine vls f rb1 ?_
 clear rb1; intro W33 hb34 rb1; dsimp only [setL, over, Value.cells] at rb1; replace B0 := Below.thenBut B0 hb34 (by omega); replace rb9 := But.row hb34 rb9 (by omega); replace rb15 := But.row hb34 rb15 (by omega); replace hz0 := zn_but hz0 hb34 (fun h a ha => (ho0.f h a ha).2) (fun h a ha => (ho0.t h a ha).2); replace hz1 := zn_but hz1 hb34 (fun h a ha => (ho1.f h a ha).2) (fun h a ha => (ho1.t h a ha).2)
 revert A; refine vla (h:=vW (vE (vF ?_))); intro A f
 refine x_retc1 f rfl rfl rfl (ag rfl) rb1 rfl ?_
 exact ⟨.inl ⟨fun h => c19 h.1, rfl⟩, B0⟩
theorem bset_any (w : World) (b : Nat) (h : Int → Bool) (f s : Nat) (v : Bool) (hm : MarksAt w b 73 h) (hfs : f + s ≤ 256) :
    Calls Tryz.prog 50 #[.pointer (some ⟨b, 0, none⟩), .agg #[.int .i64 f, .int .i64 s], .bool v] w fun e w' => e = .returned (.tuple #[]) ∧ MarksAt w' b 73 (setH f s v h) ∧ But b w w' := by
 have hb0 := below_box w (.cells #[.int .i64 f, .int .i64 s] 49)
 have x0 : (w.alloc (.cells #[.int .i64 f, .int .i64 s] 49)).cell? ⟨w.heap.size, 0, none⟩ = some (.int .i64 f) := by go_simp
 have x1 : (w.alloc (.cells #[.int .i64 f, .int .i64 s] 49)).cell? ⟨w.heap.size, 1, none⟩ = some (.int .i64 s) := by go_simp
 have hlt := hm.lt
 have hm0 := hm.below hb0
 have hB0 : But b w (w.alloc (.cells #[.int .i64 f, .int .i64 s] 49)) := .of_below hb0
 obtain ⟨W0, hW0⟩ : ∃ W0, w.alloc (.cells #[.int .i64 f, .int .i64 s] 49) = W0 := ⟨_, rfl⟩
 rw [hW0] at x0 x1 hm0 hB0
 clear hb0 hm
 go_enter Tryz.func50, Tryz.ntmps50
 go_wp2
 clear hW0
 go_loopw [9] (fun i wr => ∃ k : Nat, k ≤ s ∧ i = .int .i64 k ∧ MarksAt wr b 73 (setH f k v h) ∧ But b W0 wr) (fun i _ => s - (intOf i).toNat)
 case atStart => exact ⟨0, Nat.zero_le _, rfl, (show W0.heap[b]? = some (.cells (mk (setH (f : Int) (0 : Int) v h)) _ _) by rw [mk_set0]; exact hm0), But.refl _ _⟩
 case round =>
  obtain ⟨k, hk, rfl, hM, hB⟩ := hrel
  by_cases hk1 : k < s
  ·have c0 := hB.cell x0 (by omega)
   have c1 := hM.cell (f + k) (by omega)
   have c2 := hM.fz (f + k)
   have hM' := hM.set (by omega)
   have hB' := hB.setCell (o := f + k) (.bool v)
   clear hM hB hm0 hB0
   go_wp2
   go_region
   all_goals go_wp2
   all_goals go_roundw
   case rel => exact ⟨k + 1, by omega, by go_num, hM', ⟨hB'.os, hB'.tape, hB'.output, hB'.size, hB'.block⟩⟩
   case measure => simp [intOf]; omega
  have hk2 : k = s := by omega
  subst hk2
  clear hm0
  go_wp2
  go_end0
  exact ⟨rfl, hM, hB0.trans hB⟩
theorem zero_marks (w : World) : (zeroValue 73).run Tryz.prog w = .ok (.agg (mk fun _ => false)) w := by kernel_rfl
structure FillInv (w : World) (h : Int → Bool) (r c : Nat) (W : World) : Prop where
 size : c < W.heap.size
 lo : w.heap.size ≤ r
 lt : r < c
 b : Below w.heap.size w W
 res : MarksAt W r 73 (fun _ => false)
 m : MarksAt W c 73 h
theorem FillInv.step {w : World} {h : Int → Bool} {r c : Nat} {W W' : World} (I : FillInv w h r c W) (hb : Below W.heap.size W W') : FillInv w h r c W' :=
 ⟨Nat.lt_of_lt_of_le I.size hb.size, I.lo, I.lt, I.b.trans (hb.mono (by have := I.size; have := I.lo; have := I.lt; omega)), I.res.below hb, I.m.below hb⟩
theorem FillInv.fill {w : World} {h g : Int → Bool} {r c : Nat} {W W' : World} (I : FillInv w h r c W) (hb : But c W W') (hm : MarksAt W' c 73 g) : FillInv w g r c W' :=
 ⟨Nat.lt_of_lt_of_le I.size hb.size, I.lo, I.lt, I.b.trans (hb.below (by have := I.lo; have := I.lt; omega) (by have := I.size; have := I.lo; have := I.lt; omega)), I.res.but hb (by have := I.lt; omega), hm⟩
theorem reg_nat {x y : Int} (h : regOk (x, y)) : ∃ f s : Nat, x = f ∧ y = s ∧ f + s ≤ 256 := by
 obtain ⟨h1, h2, h3, h4, h5⟩ := h
 dsimp only at h1 h2 h3 h4 h5
 exact ⟨x.toNat, y.toNat, by omega, by omega, by omega⟩
theorem bmark_any (w : World) (ao : Option Addr) (n cap : Nat) (l : List (Int × Int)) (hr : Regs w ao n l) (hM : MayP l) :
    Calls Tryz.prog 49 #[.slice ao n cap] w fun e w' => e = .returned (.agg (mk (inL l))) ∧ Below w.heap.size w w' := by
 have hz := zero_marks
 obtain ⟨Z, hZ⟩ : ∃ Z, mk (fun _ => false) = Z := ⟨_, rfl⟩
 rw [hZ] at hz
 go_enter Tryz.func49, Tryz.ntmps49
 go_wp2
 have I0 : FillInv w (markK l true (fun _ => false) 0) w.heap.size (w.heap.size + 1) ((w.alloc (.cells Z 73)).alloc (.cells Z 73)) := by
  refine ⟨by simp, Nat.le_refl _, by omega, ((Below.refl _ _).alloc (Nat.le_refl _) _).alloc (by simp) _, ?_, ?_⟩
  ·show _ = some _
   rw [Below.heap_alloc _ _ _ (by simp), hZ]
   exact heap_alloc_new _ _
  show _ = some (Obj.cells (mk (fun _ => false)) _ _)
  rw [hZ]
  have := heap_alloc_new (w.alloc (.cells Z 73)) (.cells Z 73)
  simpa using this
 clear hz hZ
 go_loopw [8] (fun i wr => ∃ k : Nat, k ≤ n ∧ i = .int .i64 k ∧ FillInv w (markK l true (fun _ => false) k) w.heap.size (w.heap.size + 1) wr) (fun i _ => n - (intOf i).toNat)
 case atStart => exact ⟨0, Nat.zero_le _, rfl, I0⟩
 case round =>
  obtain ⟨k, hk, rfl, I⟩ := hrel
  clear I0
  by_cases hlt : k < n
  ·have hrr := hr.below I.b
   have hll := hr.len
   obtain ⟨b, o, x, y, rfl, c1, c2, hX⟩ := hrr.at_.at k (by omega)
   obtain ⟨f, s, rfl, rfl, hfs⟩ := reg_nat (by have := hM.ok k (by omega); rw [hX.out] at this; exact this)
   have hbx := below_box wr (.cells #[.int .i64 f, .int .i64 s] 49)
   have I1 := I.step hbx
   have hrch : hr.reach = hr.reach := rfl
   have hreach := hr.reach
   have HE : Hid (setH f s true (markK l true (fun _ => false) k) = markK l true (fun _ => false) (k + 1)) := by
    show _ = setH (l.getD k (0, 0)).1 (l.getD k (0, 0)).2 true (markK l true (fun _ => false) k)
    rw [hX.out]
   clear hrr I hrch
   go_wp2_with fail
   go_at_call 50
   refine (bset_any _ _ _ f s true I1.m hfs).mono ?_
   rintro e w1 ⟨rfl, hm1, hb1⟩
   rw [HE.out] at hm1
   have I2 := I1.fill hb1 hm1
   clear I1 hm1 hb1 c1 c2 hbx
   go_wp2
   go_roundw
   case rel => exact ⟨k + 1, by omega, by go_num, I2⟩
   case measure => simp [intOf]; omega
  have hkn : k = l.length := by have := hr.len; omega
  have J : MarksAt wr (w.heap.size + 1) 73 (inL l) := by show _ = some _; rw [← markK_all, ← hkn]; exact I.m
  obtain ⟨N, hN⟩ : ∃ N, N = 256 := ⟨_, rfl⟩
  have zT : ∀ w, (sizeOf 73).run Tryz.prog w = .ok N w := by subst hN; exact fun _ => by kernel_rfl
  have aT : ∀ w, (isAgg 73).run Tryz.prog w = .ok true w := fun _ => by kernel_rfl
  have hcs : (mk (inL l)).size = N := by rw [mk_size, hN]
  have hone := mk_oneCell (inL l)
  have hr0 : wr.heap[w.heap.size]? = some (.cells (mk fun _ => false) 73 (0, 0)) := I.res
  have hzs : (mk fun _ => false).size = N := by rw [mk_size, hN]
  have hB := I.b
  unfold MarksAt at J
  obtain ⟨C, hC⟩ : ∃ C, mk (inL l) = C := ⟨_, rfl⟩
  rw [hC] at J hcs hone
  have HC : Hid (mk (inL l) = C) := hC
  obtain ⟨Z0, hZ0⟩ : ∃ Z0, (mk fun _ => false) = Z0 := ⟨_, rfl⟩
  rw [hZ0] at hr0 hzs
  clear hC hZ0 hkn I hN hM hr
  have hl : (loadCellsFrom ⟨w.heap.size + 1, 0, none⟩ 0 N #[]).run Tryz.prog wr = .ok C wr := load_row J hcs
  have hs1 : (storeCells ⟨w.heap.size, 0, none⟩ C.toList 0).run Tryz.prog wr = .ok () (wr.setRow w.heap.size C) := store_row hr0 (by rw [hcs, hzs]) hone
  have hrow : (wr.setRow w.heap.size C).heap[w.heap.size]? = some (.cells C 73 (0, 0)) := setRow_heap _ _ _ _ _ _ hr0
  have hl3 := load_row (P := Tryz.prog) hrow hcs
  have hBF := below_setRow hB (Nat.le_refl _) C
  clear hrow
  go_wp2
  refine bodyPost_ret (v := .agg C) ?_ rfl ⟨by rw [HC.out], hBF⟩
  simp [results, Tryz.results49, go_sem, zT, aT, hl3]
theorem bfree_any (w : World) (mo : Option Addr) (mn mc : Nat) (M : List (Int × Int)) (ro : Option Addr) (rn rc : Nat) (R : List (Int × Int)) (hm : Regs w mo mn M) (hr : Regs w ro rn R) (hM : MayP M) (hR : MayP R) :
    Calls Tryz.prog 28 #[.agg #[.slice mo mn mc, .slice ro rn rc]] w fun e w' => e = .returned (.agg (mk fun p => inL M p && !inL R p)) ∧ Below w.heap.size w w' := by
 have hz := zero_marks
 obtain ⟨Z, hZ⟩ : ∃ Z, mk (fun _ => false) = Z := ⟨_, rfl⟩
 rw [hZ] at hz
 go_enter Tryz.func28, Tryz.ntmps28
 go_wp2_with fail
 go_at_call 49
 have hb2 : Below w.heap.size w ((w.alloc (.cells #[.slice mo mn mc, .slice ro rn rc] 25)).alloc (.cells Z 73)) := ((Below.refl _ _).alloc (Nat.le_refl _) _).alloc (by simp) _
 have p1 : ((w.alloc (.cells #[.slice mo mn mc, .slice ro rn rc] 25)).alloc (.cells Z 73)).cell? ⟨w.heap.size, 1, none⟩ = some (.slice ro rn rc) := by go_simp
 have hres : MarksAt ((w.alloc (.cells #[.slice mo mn mc, .slice ro rn rc] 25)).alloc (.cells Z 73)) (w.heap.size + 1) 73 (fun _ => false) := by
  show _ = some _
  rw [hZ]
  have := heap_alloc_new (w.alloc (.cells #[.slice mo mn mc, .slice ro rn rc] 25)) (.cells Z 73)
  simpa using this
 refine (bmark_any _ mo mn mc M (hm.below hb2) hM).mono ?_
 rintro e w1 ⟨rfl, hb1⟩
 replace p1 := keep p1 hb1
 replace hres := hres.below hb1
 have hB1 := hb2.trans (hb1.mono hb2.size)
 have hs1 : w.heap.size + 2 ≤ w1.heap.size := by have := hb1.size; simp at this; omega
 clear hb1 hb2
 have hzs : Z.size = (mk (inL M)).size := by rw [← hZ, mk_size, mk_size]
 have hst : (storeCells ⟨w1.heap.size, 0, none⟩ (mk (inL M)).toList 0).run Tryz.prog (w1.alloc (.cells Z 73)) = .ok () ((w1.alloc (.cells Z 73)).setRow w1.heap.size (mk (inL M))) := store_row (heap_alloc_new _ _) hzs (mk_oneCell _)
 have hrow : MarksAt ((w1.alloc (.cells Z 73)).setRow w1.heap.size (mk (inL M))) w1.heap.size 73 (inL M) := setRow_heap _ _ _ _ _ _ (heap_alloc_new _ _)
 have hbs : Below w1.heap.size w1 ((w1.alloc (.cells Z 73)).setRow w1.heap.size (mk (inL M))) := below_setRow (below_box _ _) (Nat.le_refl _) _
 have I0 : FillInv w (inL M) (w.heap.size + 1) w1.heap.size ((w1.alloc (.cells Z 73)).setRow w1.heap.size (mk (inL M))) := ⟨by have := hbs.size; exact hrow.lt, by omega, by omega, hB1.trans (hbs.mono (by omega)), hres.below hbs, hrow⟩
 replace p1 := keep p1 hbs
 have hrr := hr.below I0.b
 obtain ⟨C, hC⟩ : ∃ C, mk (inL M) = C := ⟨_, rfl⟩
 rw [hC] at hst I0 p1 hrr ⊢
 obtain ⟨W2, hW2⟩ : ∃ W2, (w1.alloc (.cells Z 73)).setRow w1.heap.size C = W2 := ⟨_, rfl⟩
 rw [hW2] at hst I0 p1 hrr
 obtain ⟨N, hN⟩ : ∃ N, N = 256 := ⟨_, rfl⟩
 have zT : ∀ w, (sizeOf 73).run Tryz.prog w = .ok N w := by subst hN; exact fun _ => by kernel_rfl
 have aT : ∀ w, (isAgg 73).run Tryz.prog w = .ok true w := fun _ => by kernel_rfl
 have hcN : C.size = N := by rw [← hC, mk_size, hN]
 have hlt0 := I0.size
 obtain ⟨HNN⟩ : Nonempty (Hid (N = 256)) := ⟨hN⟩
 have hR0 := hr.at_
 have hRl := hr.len
 clear hN hrow hbs hres hzs hB1 hm hr
 go_wp2
 clear hst hcN hz hC hW2 p1
 go_loopw [12] (fun i wr => ∃ k : Nat, k ≤ rn ∧ i = .int .i64 k ∧ FillInv w (markK R false (inL M) k) (w.heap.size + 1) w1.heap.size wr ∧ Regs wr ro rn R) (fun i _ => rn - (intOf i).toNat)
 case atStart => exact ⟨0, Nat.zero_le _, rfl, I0, hrr⟩
 case round =>
  obtain ⟨k, hk, rfl, I, hr⟩ := hrel
  clear I0 hrr
  by_cases hlt : k < rn
  ·have hll := hr.len
   have hold : ∀ a, ro = some a → a.block < w.heap.size := by
    obtain ⟨b', o', e', c', _⟩ := hR0 k (by omega)
    intro a ha
    rw [e'] at ha
    cases ha
    have := World.block_lt_of_cell? w _ c'
    exact this
   obtain ⟨b, o, x, y, rfl, c1, c2, hX⟩ := hr.at_.at k (by omega)
   obtain ⟨f, s, rfl, rfl, hfs⟩ := reg_nat (by have := hR.ok k (by omega); rw [hX.out] at this; exact this)
   have hbx := below_box wr (.cells #[.int .i64 f, .int .i64 s] 49)
   have I1 := I.step hbx
   have hreach := hr.reach
   have HE : Hid (setH f s false (markK R false (inL M) k) = markK R false (inL M) (k + 1)) := by
    show _ = setH (R.getD k (0, 0)).1 (R.getD k (0, 0)).2 false (markK R false (inL M) k)
    rw [hX.out]
   clear I
   go_wp2_with fail
   go_at_call 50
   refine (bset_any _ _ _ f s false I1.m hfs).mono ?_
   rintro e w3 ⟨rfl, hm1, hb1⟩
   rw [HE.out] at hm1
   have I2 := I1.fill hb1 hm1
   have hr2 := hb1.regs (hr.below hbx) (fun a ha => by have := hold a ha; omega)
   clear I1 hm1 hb1 c1 c2 hbx hr
   go_wp2
   go_roundw
   case rel => exact ⟨k + 1, by omega, by go_num, I2, hr2⟩
   case measure => simp [intOf]; omega
  have hkn : k = R.length := by have := hr.len; omega
  have J : MarksAt wr w1.heap.size 73 (fun p => inL M p && !inL R p) := by show _ = some _; rw [← markK_free, ← hkn]; exact I.m
  have hN := HNN.out
  have hcs : (mk (fun p => inL M p && !inL R p)).size = N := by rw [mk_size, hN]
  have hone := mk_oneCell (fun p => inL M p && !inL R p)
  have hr0 : wr.heap[w.heap.size + 1]? = some (.cells (mk fun _ => false) 73 (0, 0)) := I.res
  have hzs : (mk fun _ => false).size = N := by rw [mk_size, hN]
  have hB := I.b
  unfold MarksAt at J
  obtain ⟨C, hC⟩ : ∃ C, mk (fun p => inL M p && !inL R p) = C := ⟨_, rfl⟩
  rw [hC] at J hcs hone
  have HC : Hid (mk (fun p => inL M p && !inL R p) = C) := hC
  rw [hZ] at hr0 hzs
  clear hC hZ hkn I hN hM hR hr HNN hR0
  have hl : (loadCellsFrom ⟨w1.heap.size, 0, none⟩ 0 N #[]).run Tryz.prog wr = .ok C wr := load_row J hcs
  have hs2 : (storeCells ⟨w.heap.size + 1, 0, none⟩ C.toList 0).run Tryz.prog wr = .ok () (wr.setRow (w.heap.size + 1) C) := store_row hr0 (by rw [hcs, hzs]) hone
  have hrow : (wr.setRow (w.heap.size + 1) C).heap[w.heap.size + 1]? = some (.cells C 73 (0, 0)) := setRow_heap _ _ _ _ _ _ hr0
  have hl3 := load_row (P := Tryz.prog) hrow hcs
  have hBF := below_setRow hB (Nat.le_succ w.heap.size) C
  clear hrow
  go_wp2
  refine bodyPost_ret (v := .agg C) ?_ rfl ⟨by rw [HC.out], hBF⟩
  simp [results, Tryz.results28, go_sem, zT, aT, hl3]
theorem bregions_any (w : World) (b : Nat) (h : Int → Bool) (hm : MarksAt w b 73 h) :
    Calls Tryz.prog 29 #[.pointer (some ⟨b, 0, none⟩)] w fun e w' => ∃ bo c, e = .returned (.slice bo (drawnAll h).length c) ∧
     w'.ownsRow w.heap.size 49 2 (.slice bo (drawnAll h).length c) (drawnAll h).length (rvals (drawnAll h)) ∧ Below w.heap.size w w' := by
 obtain ⟨i0, hi, hz0, hz1, hz2⟩ := info_parts info_region
 obtain ⟨N, hN1, hN2⟩ : ∃ N : Nat, N ≤ 256 ∧ 256 ≤ N := ⟨256, Nat.le_refl _, Nat.le_refl _⟩
 go_enter Tryz.func29, Tryz.ntmps29
 go_wp2
 go_loopw [3, 7] (fun v i wr => ∃ (k n c : Nat) (bo : Option Addr), k ≤ N ∧ i = .int .i64 k ∧ v = .slice bo n c ∧ Hid ((drawnK h k).length = n) ∧ wr.ownsRow w.heap.size 49 2 (.slice bo n c) n (rvals (drawnK h k)) ∧ Below w.heap.size w wr) (fun _ i _ => N - (intOf i).toNat)
 case atStart => exact ⟨0, 0, 0, none, by omega, rfl, rfl, rfl, World.ownsRow_nil _ _ _ _, Below.refl _ _⟩
 case round =>
  obtain ⟨k, n, c, bo, hk, rfl, rfl, hL, hown, hb⟩ := hrel
  have hs := hb.size
  by_cases hlt : k < N
  ·have hmr := hm.below hb
   have c1 := hmr.cell k (by omega)
   by_cases h1 : h k = true
   ·rw [h1] at c1
    go_wp2
    go_quiet (fail)
    have hown1 := owns_below hown (below_drawn (w := wr) nq) (Nat.le_refl _)
    have hb1 := below_drewN hb nq
    have hm1 := hm.below hb1
    obtain ⟨W1, hW1⟩ : ∃ W1, wr.drewN nq = W1 := ⟨_, rfl⟩
    rw [hW1] at hown1 hb1 hm1 ⊢
    clear hW1 hown hb hmr c1 hs hm
    by_cases h0 : k = 0
    ·subst h0
     have h0' : Hid (¬ (0 < 0 ∧ h (((0 : Nat) : Int) - 1) = true)) := fun g => by omega
     clear hm1
     have hml : n + 1 ≤ maxLen := by have := drawn_len h 0; have := hL.out; unfold maxLen; omega
     have hsz : (n + 1) * 16 ≤ 140737488355328 := by have := drawn_len h 0; have := hL.out; omega
     have hlen := hL.out
     have HE0 : Hid (rvals (drawnK h 0) ++ [Value.int .i64 0, Value.int .i64 0] = rvals (drawnK h 0 ++ [(((0 : Nat) : Int), 0)])) := by
      show _ = _
      rw [rvals_append]; rfl
     have HE : Hid ((rvals (drawnK h 0 ++ [(((0 : Nat) : Int), 0)])).set (n * 2 + 1) (.int .i64 1) = rvals (drawnK h (0 + 1))) := by
      show _ = rvals (if h ((0 : Nat) : Int) then (if 0 < 0 ∧ h (((0 : Nat) : Int) - 1) then bump (drawnK h 0) else drawnK h 0 ++ [(((0 : Nat) : Int), 1)]) else drawnK h 0)
      rw [if_pos h1, if_neg h0'.out, rvals_set_snd _ _ _ (by simp; omega), ← hlen]
      simp [List.getD_eq_getElem?_getD]
     have HL' : Hid ((drawnK h (0 + 1)).length = n + 1) := by
      show (if h ((0 : Nat) : Int) then (if 0 < 0 ∧ h (((0 : Nat) : Int) - 1) then bump (drawnK h 0) else drawnK h 0 ++ [(((0 : Nat) : Int), 1)]) else drawnK h 0).length = n + 1
      rw [if_pos h1, if_neg h0'.out]; simp [hlen]
     have hget : (drawnK h 0 ++ [(((0 : Nat) : Int), 0)]).getD n (0, 0) = (((0 : Nat) : Int), 0) := by rw [← hlen]; simp [List.getD_eq_getElem?_getD]
     have hl2 : n < (drawnK h 0 ++ [(((0 : Nat) : Int), 0)]).length := by simp; omega
     have hn256 : n ≤ 256 := by have := drawn_len h 0; omega
     obtain ⟨L1, hL1⟩ : ∃ L1, drawnK h 0 ++ [(((0 : Nat) : Int), 0)] = L1 := ⟨_, rfl⟩
     rw [hL1] at HE0 HE hget hl2
     clear hL hlen hL1 h0' h1
     go_wp2_with (at_builtin; refine wpList_append_own _ rfl (.tmp 26) (.tmp 29) 23 rfl w.heap.size 49 i0 (.agg #[.int .i64 0, .int .i64 0]) 2 16 Tryz.underlying23 hi hz0 hz1 hz2 rfl (by decide) _ _ _ rfl (hown1.alloc _) ⟨W1.heap.size, 0, none⟩ 1 1 [.int .i64 0, .int .i64 0] rfl rfl ?c1 ?c2 hml hsz ?c5 ?_)
     case c1 => exact cell_two_new _ _ _ _
     case c2 => exact ints_oneCell .i64 [_, _]
     case c5 => have := hb1.size; simp; omega
     intro v' w3 hown' hgrow _
     rw [HE0.out] at hown'
     have hb' : Below w.heap.size w w3 := (hb1.alloc hb1.size _).grown hgrow (by have := hb1.size; simp; omega) (fun g hg => (hown1.lt g hg).1)
     obtain ⟨bo', c', rfl⟩ := owns_shape hown'
     obtain ⟨g, rfl, hg1, hg2⟩ := owns_head hown' (by omega)
     have hcell : w3.cell? ⟨g, n * 2 + 1, none⟩ = some (.int .i64 0) := by rw [hown'.cellAt (n * 2 + 1) (by omega), rvals_snd _ _ hl2, hget]
     have hfz : w3.frozen? ⟨g, n * 2 + 1, none⟩ = false := hown'.frozenAt _
     have hO := (hown'.stored (n * 2 + 1) (.int .i64 1)).1
     rw [HE.out] at hO
     have hb'' := hb'.setCell (p := ⟨g, n * 2 + 1, none⟩) hg1 (.int .i64 1)
     clear hown1 hgrow hb1 hown' hb' hget hl2
     go_wp2
     go_roundw
     case rel => exact ⟨0 + 1, n + 1, c', _, by omega, by go_num, rfl, HL', hO, hb''⟩
     case measure => simp [intOf]; omega
    obtain ⟨j, rfl⟩ : ∃ j, k = j + 1 := ⟨k - 1, by omega⟩
    have c2 := hm1.cell j (by omega)
    have hj1 : (((j + 1 : Nat) : Int) - 1) = (j : Int) := by omega
    have t0 : ((j : Int) + 1 == 0) = false := by simp; omega
    by_cases h2 : h (j : Int) = true
    ·rw [h2] at c2
     obtain ⟨l, f, s, el, hfs⟩ := (drawn_inv h (j + 1)).run (by omega) (by rw [hj1]; exact h2)
     have hcan := (drawn_inv h (j + 1)).canon
     rw [el, canon_snoc] at hcan
     obtain ⟨g0, g1, g2, g3⟩ := hcan
     have g4 := canon_end g0
     clear g0
     dsimp only at g1 g2 g3
     have hlen := hL.out
     obtain ⟨m, rfl⟩ : ∃ m, n = m + 1 := ⟨l.length, by rw [← hlen, el]; simp⟩
     have hm' : m = l.length := by rw [el] at hlen; simp at hlen; omega
     have hget : (drawnK h (j + 1)).getD m (0, 0) = (f, s) := by rw [el, hm']; simp [List.getD_eq_getElem?_getD]
     obtain ⟨g, rfl, hg1, hg2⟩ := owns_head hown1 (by omega)
     have hcell : W1.cell? ⟨g, m * 2 + 1, none⟩ = some (.int .i64 s) := by rw [hown1.cellAt (m * 2 + 1) (by omega), rvals_snd _ _ (by omega), hget]
     have hfz : W1.frozen? ⟨g, m * 2 + 1, none⟩ = false := hown1.frozenAt _
     have hO := (hown1.stored (m * 2 + 1) (.int .i64 (s + 1))).1
     have hmb : m ≤ 256 := by have := drawn_len h (j + 1); omega
     have hdef : drawnK h (j + 1 + 1) = bump (drawnK h (j + 1)) := by
      show (if h ((j + 1 : Nat) : Int) then (if 0 < j + 1 ∧ h (((j + 1 : Nat) : Int) - 1) then bump (drawnK h (j + 1)) else drawnK h (j + 1) ++ [(((j + 1 : Nat) : Int), 1)]) else drawnK h (j + 1)) = _
      rw [if_pos h1, if_pos ⟨by omega, by rw [hj1]; exact h2⟩]
     have HE : Hid ((rvals (drawnK h (j + 1))).set (m * 2 + 1) (.int .i64 (s + 1)) = rvals (drawnK h (j + 1 + 1))) := by
      show _ = _
      rw [hdef, rvals_set_snd _ _ _ (by omega), hget]
      unfold bump
      rw [hlen, Nat.add_sub_cancel, hget]
     have HL' : Hid ((drawnK h (j + 1 + 1)).length = m + 1) := by
      show _ = _
      rw [hdef]; unfold bump; rw [List.length_set]; exact hlen
     rw [HE.out] at hO
     have hb' := hb1.setCell (p := ⟨g, m * 2 + 1, none⟩) hg1 (.int .i64 (s + 1))
     have hs1 : s ≤ 256 := by omega
     clear hL hown1 hb1 el hget hlen hfs g1 g3 g4 hm' hdef h1 h2 hm1 hj1
     go_wp2
     go_roundw
     case rel => exact ⟨j + 1 + 1, m + 1, c, _, by omega, by go_num, rfl, HL', hO, hb'⟩
     case measure => simp [intOf]; omega
    have h2' : h (j : Int) = false := by simpa using h2
    rw [h2'] at c2
    have h0' : Hid (¬ (0 < j + 1 ∧ h (((j + 1 : Nat) : Int) - 1) = true)) := fun g => h2 (by rw [hj1] at g; exact g.2)
    clear h2 h2' hj1 hm1 h0
    have hml : n + 1 ≤ maxLen := by have := drawn_len h (j + 1); have := hL.out; unfold maxLen; omega
    have hsz : (n + 1) * 16 ≤ 140737488355328 := by have := drawn_len h (j + 1); have := hL.out; omega
    have hlen := hL.out
    have HE0 : Hid (rvals (drawnK h (j + 1)) ++ [Value.int .i64 ((j : Int) + 1), Value.int .i64 0] = rvals (drawnK h (j + 1) ++ [((((j + 1) : Nat) : Int), 0)])) := by
     show _ = _
     rw [rvals_append]; rfl
    have HE : Hid ((rvals (drawnK h (j + 1) ++ [((((j + 1) : Nat) : Int), 0)])).set (n * 2 + 1) (.int .i64 1) = rvals (drawnK h ((j + 1) + 1))) := by
     show _ = rvals (if h (((j + 1) : Nat) : Int) then (if 0 < (j + 1) ∧ h ((((j + 1) : Nat) : Int) - 1) then bump (drawnK h (j + 1)) else drawnK h (j + 1) ++ [((((j + 1) : Nat) : Int), 1)]) else drawnK h (j + 1))
     rw [if_pos h1, if_neg h0'.out, rvals_set_snd _ _ _ (by simp; omega), ← hlen]
     simp [List.getD_eq_getElem?_getD]
    have HL' : Hid ((drawnK h ((j + 1) + 1)).length = n + 1) := by
     show (if h (((j + 1) : Nat) : Int) then (if 0 < (j + 1) ∧ h ((((j + 1) : Nat) : Int) - 1) then bump (drawnK h (j + 1)) else drawnK h (j + 1) ++ [((((j + 1) : Nat) : Int), 1)]) else drawnK h (j + 1)).length = n + 1
     rw [if_pos h1, if_neg h0'.out]; simp [hlen]
    have hget : (drawnK h (j + 1) ++ [((((j + 1) : Nat) : Int), 0)]).getD n (0, 0) = ((((j + 1) : Nat) : Int), 0) := by rw [← hlen]; simp [List.getD_eq_getElem?_getD]
    have hl2 : n < (drawnK h (j + 1) ++ [((((j + 1) : Nat) : Int), 0)]).length := by simp; omega
    have hn256 : n ≤ 256 := by have := drawn_len h (j + 1); omega
    obtain ⟨L1, hL1⟩ : ∃ L1, drawnK h (j + 1) ++ [((((j + 1) : Nat) : Int), 0)] = L1 := ⟨_, rfl⟩
    rw [hL1] at HE0 HE hget hl2
    clear hL hlen hL1 h0' h1
    go_wp2_with (at_builtin; refine wpList_append_own _ rfl (.tmp 26) (.tmp 29) 23 rfl w.heap.size 49 i0 (.agg #[.int .i64 0, .int .i64 0]) 2 16 Tryz.underlying23 hi hz0 hz1 hz2 rfl (by decide) _ _ _ rfl (hown1.alloc _) ⟨W1.heap.size, 0, none⟩ 1 1 [.int .i64 ((j : Int) + 1), .int .i64 0] rfl rfl ?c1 ?c2 hml hsz ?c5 ?_)
    case c1 => exact cell_two_new _ _ _ _
    case c2 => exact ints_oneCell .i64 [_, _]
    case c5 => have := hb1.size; simp; omega
    intro v' w3 hown' hgrow _
    rw [HE0.out] at hown'
    have hb' : Below w.heap.size w w3 := (hb1.alloc hb1.size _).grown hgrow (by have := hb1.size; simp; omega) (fun g hg => (hown1.lt g hg).1)
    obtain ⟨bo', c', rfl⟩ := owns_shape hown'
    obtain ⟨g, rfl, hg1, hg2⟩ := owns_head hown' (by omega)
    have hcell : w3.cell? ⟨g, n * 2 + 1, none⟩ = some (.int .i64 0) := by rw [hown'.cellAt (n * 2 + 1) (by omega), rvals_snd _ _ hl2, hget]
    have hfz : w3.frozen? ⟨g, n * 2 + 1, none⟩ = false := hown'.frozenAt _
    have hO := (hown'.stored (n * 2 + 1) (.int .i64 1)).1
    rw [HE.out] at hO
    have hb'' := hb'.setCell (p := ⟨g, n * 2 + 1, none⟩) hg1 (.int .i64 1)
    clear hown1 hgrow hb1 hown' hb' hget hl2
    go_wp2
    go_roundw
    case rel => exact ⟨(j + 1) + 1, n + 1, c', _, by omega, by go_num, rfl, HL', hO, hb''⟩
    case measure => simp [intOf]; omega
   have h1' : h k = false := by simpa using h1
   rw [h1'] at c1
   have HE : Hid (drawnK h k = drawnK h (k + 1)) := by
    show _ = (if h k then (if 0 < k ∧ h (k - 1) then bump (drawnK h k) else drawnK h k ++ [((k : Int), 1)]) else drawnK h k)
    rw [if_neg h1]
   rw [HE.out] at hown hL
   clear h1 h1' hm hmr
   go_wp2
   go_quiet (fail)
   go_wp2
   go_roundw
   case rel => exact ⟨k + 1, n, c, bo, by omega, by go_num, rfl, hL, owns_below hown (below_drawn _) (Nat.le_refl _), below_drewN hb _⟩
   case measure => simp [intOf]; omega
  have hk2 : k = 256 := by omega
  rw [drawn_all h k hk2] at hL hown
  have hL' := hL.out
  subst hL'
  clear hk2 hL
  go_wp2
  go_ret
  exact ⟨bo, c, rfl, hown, hb⟩
theorem cRanges_ok (w : World) (mo : Option Addr) (mn mc : Nat) (M : List (Int × Int)) (ro : Option Addr) (rn rc : Nat) (R : List (Int × Int)) (hm : Regs w mo mn M) (hr : Regs w ro rn R) (h : MayP M ∧ MayP R) :
    Calls Tryz.prog 11 #[.agg #[.slice mo mn mc, .slice ro rn rc]] w fun e w' => ∃ bo n c, e = .returned (.tuple #[.slice bo n c, .int .i64 0]) ∧ Regs w' bo n (drawnAll (freeH M R)) ∧ Below w.heap.size w w' := by
 have hb0 := below_box w (.cells #[.slice mo mn mc, .slice ro rn rc] 25)
 have p0 : (w.alloc (.cells #[.slice mo mn mc, .slice ro rn rc] 25)).cell? ⟨w.heap.size, 0, none⟩ = some (.slice mo mn mc) := by go_simp
 have p1 : (w.alloc (.cells #[.slice mo mn mc, .slice ro rn rc] 25)).cell? ⟨w.heap.size, 1, none⟩ = some (.slice ro rn rc) := by go_simp
 obtain ⟨D, hD⟩ : ∃ D, drawnAll (freeH M R) = D := ⟨_, rfl⟩
 have hlen : D.length ≤ 256 := by rw [← hD, ← drawn_all _ 256 rfl]; exact drawn_len _ 256
 rw [hD]
 have HD : Hid (drawnAll (freeH M R) = D) := hD
 clear hD
 go_enter Tryz.func11, Tryz.ntmps11
 go_wp2_with fail
 go_at_call 27
 refine (cCheck_ok _ mo mn mc M ro rn rc R (hm.below hb0) (hr.below hb0) h).mono ?_
 rintro e w1 ⟨rfl, hb1⟩
 replace p0 := keep p0 hb1
 replace p1 := keep p1 hb1
 have hB1 := hb0.trans (hb1.mono hb0.size)
 have HC := bfree_any w1 mo mn mc M ro rn rc R (hm.below hB1) (hr.below hB1) h.1 h.2
 clear hb0 hb1 hm hr
 go_wp2_with fail
 go_at_call 28
 refine HC.mono ?_
 rintro e w2 ⟨rfl, hb2⟩
 have hB2 := hB1.trans (hb2.mono hB1.size)
 clear HC hB1 hb2 p0 p1
 have hz := zero_marks
 obtain ⟨Z, hZ⟩ : ∃ Z, mk (fun _ => false) = Z := ⟨_, rfl⟩
 rw [hZ] at hz
 have hzs : Z.size = (mk fun p => inL M p && !inL R p).size := by rw [← hZ, mk_size, mk_size]
 have hst : (storeCells ⟨w2.heap.size, 0, none⟩ (mk fun p => inL M p && !inL R p).toList 0).run Tryz.prog (w2.alloc (.cells Z 73)) = .ok () ((w2.alloc (.cells Z 73)).setRow w2.heap.size (mk fun p => inL M p && !inL R p)) := store_row (heap_alloc_new _ _) hzs (mk_oneCell _)
 have hrow : MarksAt ((w2.alloc (.cells Z 73)).setRow w2.heap.size (mk fun p => inL M p && !inL R p)) w2.heap.size 73 (freeH M R) := setRow_heap _ _ _ _ _ _ (heap_alloc_new _ _)
 have hbs : Below w2.heap.size w2 ((w2.alloc (.cells Z 73)).setRow w2.heap.size (mk fun p => inL M p && !inL R p)) := below_setRow (below_box _ _) (Nat.le_refl _) _
 have HX := bregions_any _ _ _ hrow
 rw [HD.out] at HX
 obtain ⟨C, hC⟩ : ∃ C, (mk fun p => inL M p && !inL R p) = C := ⟨_, rfl⟩
 rw [hC] at hst HX hbs ⊢
 obtain ⟨N, hN⟩ : ∃ N, N = 256 := ⟨_, rfl⟩
 have zT : ∀ w, (sizeOf 73).run Tryz.prog w = .ok N w := by subst hN; exact fun _ => by kernel_rfl
 have aT : ∀ w, (isAgg 73).run Tryz.prog w = .ok true w := fun _ => by kernel_rfl
 have hcN : C.size = N := by rw [← hC, mk_size, hN]
 have hB3 := hB2.trans (hbs.mono hB2.size)
 obtain ⟨W3, hW3⟩ : ∃ W3, (w2.alloc (.cells Z 73)).setRow w2.heap.size C = W3 := ⟨_, rfl⟩
 rw [hW3] at hst HX hB3
 clear hN hrow hzs hC hB2 hbs
 go_wp2_with fail
 go_at_call 29
 refine HX.mono ?_
 rintro e w4 ⟨bo, c, rfl, own, hb4⟩
 clear HX
 go_wp2
 go_ret2
 exact ⟨bo, _, c, rfl, ⟨rfl, by omega, regs_of_owns own⟩, hB3.trans (hb4.mono hB3.size)⟩
end Go.Proofs.YtjohdbiipeedkabGreatDoor
namespace Go.Proofs.YtjohdbiipeedkabGreatDoor.Kit
open Go Go.RowKit Go.ChangeShapes Go.WideShapes Go.ChangeAt Go.Joins Go.Deep
structure Raw4 where
 k : Int
 a : Int
 b : Int
 c : Int
def Raw4.zero : Raw4 := ⟨0, 0, 0, 0⟩
structure Raw4.Fits (r : Raw4) : Prop where
 k : (Lit.int .i64 r.k).wf = true
 a : (Lit.int .i64 r.a).wf = true
 b : (Lit.int .i64 r.b).wf = true
 c : (Lit.int .i64 r.c).wf = true
def RawsAt (w : World) (ao : Option Addr) (l : List Raw4) : Prop :=
 ∀ i, i < l.length → ∃ b off, ao = some ⟨b, off, none⟩ ∧ w.cell? ⟨b, off + i * 4, none⟩ = some (.int .i64 (l.getD i .zero).k) ∧ w.cell? ⟨b, off + i * 4 + 1, none⟩ = some (.int .i64 (l.getD i .zero).a) ∧
  w.cell? ⟨b, off + i * 4 + 2, none⟩ = some (.int .i64 (l.getD i .zero).b) ∧ w.cell? ⟨b, off + i * 4 + 3, none⟩ = some (.int .i64 (l.getD i .zero).c)
theorem RawsAt.below {w w' : World} {ao : Option Addr} {l : List Raw4} (h : RawsAt w ao l) (hb : Below w.heap.size w w') : RawsAt w' ao l := by
 intro i hi
 obtain ⟨b, off, ha, h1, h2, h3, h4⟩ := h i hi
 exact ⟨b, off, ha, keep h1 hb, keep h2 hb, keep h3 hb, keep h4 hb⟩
theorem RawsAt.nil (w : World) (ao : Option Addr) : RawsAt w ao [] := fun i hi => absurd hi (by simp)
structure IsRaws (w : World) (ao : Option Addr) (n cap : Nat) (l : List Raw4) : Prop where
 len : l.length = n
 le : n ≤ cap
 reach : cap * 32 ≤ 140737488351232
 at_ : RawsAt w ao l
 wf : ∀ i, i < n → (l.getD i .zero).Fits
theorem open_raws_arg {H : Type} {enc : TypeId × Value → H} {P : Program} {W : World} {base : Nat} {t e : TypeId} {f0 f1 f2 f3 : Field} {v : Value} {d : DataW H} {p : List MemPlace}
    (ht : P.underlying t = some (.slice e)) (he : P.underlying e = some (.struct #[f0, f1, f2, f3])) (ce : P.cellsOf e = 4) (be : P.bytesOf e = 32)
    (hone : oneCellFields P #[f0, f1, f2, f3] = true) (u0 : P.underlying f0.type = some (.int .i64)) (u1 : P.underlying f1.type = some (.int .i64)) (u2 : P.underlying f2.type = some (.int .i64)) (u3 : P.underlying f3.type = some (.int .i64))
    (hv : Value.okWide P W .any base t v) (h : DataW.Trod enc P W 0 (fun _ => true) true t v d p) (hs : Sized P t d) :
    ∃ ao n cap l, v = .slice ao n cap ∧ IsRaws W ao n cap l := by
 obtain ⟨ao, n, cap, rfl⟩ := okWide_slice ht hv
 obtain ⟨fuel, hf⟩ := h
 rcases open_slice ht hf with ⟨hcs, _⟩ | ⟨a, len, cap', m, fu, D, Pl, hcs, _, hl, hm, hmm, hx, hc⟩
 ·simp [Value.cells] at hcs
  obtain ⟨rfl, rfl, rfl⟩ := hcs
  exact ⟨none, 0, 0, [], rfl, ⟨rfl, by omega, by omega, RawsAt.nil _ _, fun i hi => by omega⟩⟩
 simp [Value.cells] at hcs
 obtain ⟨rfl, rfl, rfl⟩ := hcs
 simp only [if_true] at hmm
 subst hmm
 simp only [Prod.mk.injEq] at hx
 have hr := hx.1 ▸ hs
 have hr2 := sized_sl hr ht
 rw [be] at hr2
 simp only [List.length_map, List.length_range, reachBytes] at hr2
 rw [ce] at hc
 obtain ⟨o0, k0⟩ := hone_of hone 0 f0 rfl
 obtain ⟨o1, k1⟩ := hone_of hone 1 f1 rfl
 obtain ⟨o2, k2⟩ := hone_of hone 2 f2 rfl
 obtain ⟨o3, k3⟩ := hone_of hone 3 f3 rfl
 have each : ∀ i, i < m → ∃ r : Raw4, r.Fits ∧ W.cell? (a.add (i * 4)) = some (.int .i64 r.k) ∧ W.cell? (a.add (i * 4 + 1)) = some (.int .i64 r.a) ∧ W.cell? (a.add (i * 4 + 2)) = some (.int .i64 r.b) ∧ W.cell? (a.add (i * 4 + 3)) = some (.int .i64 r.c) := by
  intro i hi
  obtain ⟨cs', h1, h2⟩ := hc i hi
  obtain ⟨_, hlen, hcell⟩ := World.cells?_some h1
  obtain ⟨y0, y1, y2, y3, q, _, _, g0, g1, g2, g3⟩ := trod_struct4 he h2
  match cs', hlen with
  | [v0, v1, v2, v3], _ =>
   simp [o0, k0] at g0
   simp [o1, k1] at g1
   simp [o2, k2] at g2
   simp [o3, k3] at g3
   obtain ⟨x0, e0, _, w0⟩ := DataW.trod_int u0 g0
   obtain ⟨x1, e1, _, w1⟩ := DataW.trod_int u1 g1
   obtain ⟨x2, e2, _, w2⟩ := DataW.trod_int u2 g2
   obtain ⟨x3, e3, _, w3⟩ := DataW.trod_int u3 g3
   simp only [List.cons.injEq, and_true] at e0 e1 e2 e3
   subst e0 e1 e2 e3
   have c0 := hcell 0 (by omega)
   have c1 := hcell 1 (by omega)
   have c2 := hcell 2 (by omega)
   have c3 := hcell 3 (by omega)
   rw [add_add] at c0 c1 c2 c3
   exact ⟨⟨x0, x1, x2, x3⟩, ⟨w0, w1, w2, w3⟩, by simpa using c0, by simpa using c1, by simpa using c2, by simpa using c3⟩
 have inh : Inhabited Raw4 := ⟨Raw4.zero⟩
 obtain ⟨g, hg⟩ := choose_lt each
 have hget : ∀ i, i < n → ((List.range n).map g).getD i .zero = g i := by
  intro i hi
  simp [List.getD_eq_getElem?_getD, hi]
 refine ⟨some a, n, m, (List.range n).map g, rfl, ⟨by simp, hl, by omega, ?_, fun i hi => by rw [hget i hi]; exact (hg i (by omega)).1⟩⟩
 intro i hi
 have hi' : i < n := by simpa using hi
 obtain ⟨_, d0, d1, d2, d3⟩ := hg i (by omega)
 obtain ⟨b, off, spot⟩ := a
 have hspot : spot = none := by
  have := World.cell?_spot (hg 0 (by omega)).2.1
  simpa [Addr.add] using this
 subst hspot
 have hadd : ∀ j, (⟨b, off, none⟩ : Addr).add j = ⟨b, off + j, none⟩ := fun j => by unfold Addr.add; split <;> simp_all
 rw [hadd] at d0 d1 d2 d3
 rw [hget i hi']
 exact ⟨b, off, rfl, d0, by rw [Nat.add_assoc]; exact d1, by rw [Nat.add_assoc]; exact d2, by rw [Nat.add_assoc]; exact d3⟩
open Go Go.RowKit
section
variable {P : Program} {l : List Oper} {Q : Exit → Act → World → Prop} {S : World → Prop} {n N : Nat} {listed : Array Bool} {A : Act} {L : List (Nat × Value)} {o o' o'' : Oper} {w : World}
theorem a_three (k j i3 : Nat) (hk : l[k]? = some o) (hj : l[j]? = some o') (hi3 : l[i3]? = some o'') (hr : Region.ready .any l.toArray listed = [k, j, i3]) (hg : o.guard = none) (hg' : o'.guard = none) (hg'' : o''.guard = none)
    (h : o.wp P A w (fun a' w' => S w' ∧ wpAnyH P .any l.toArray Q S n (listed.setIfInBounds k true) a' w') Q)
    (h' : o'.wp P A w (fun a' w' => S w' ∧ wpAnyH P .any l.toArray Q S n (listed.setIfInBounds j true) a' w') Q)
    (h'' : o''.wp P A w (fun a' w' => S w' ∧ wpAnyH P .any l.toArray Q S n (listed.setIfInBounds i3 true) a' w') Q) : wpAnyH P .any l.toArray Q S (n + 1) listed A w := by
 refine wpAnyH_all hr (by simp) ?_
 intro i hi
 unfold wpOp
 rcases (show i = k ∨ i = j ∨ i = i3 by simpa using hi) with rfl | rfl | rfl
 ·rw [show l.toArray[i]? = some o by simpa using hk]
  simp only [Region.wanted, hg, if_true]
  exact .inl h
 ·rw [show l.toArray[i]? = some o' by simpa using hj]
  simp only [Region.wanted, hg', if_true]
  exact .inl h'
 ·rw [show l.toArray[i]? = some o'' by simpa using hi3]
  simp only [Region.wanted, hg'', if_true]
  exact .inl h''
theorem g_opR {K : Act → World → Prop} {R : Value → World → Prop} (hr : ∃ v W, (execOp A.eval o).run P w = .ok (.value v) W ∧ R v W) (h : ∀ v W, R v W → K (A.put o.dst v) W) : o.wp P A w K Q := by
 obtain ⟨v, W, hrun, hR⟩ := hr
 unfold Oper.wp
 rw [hrun, Oper.upon_value]
 exact h v W hR
end
end Go.Proofs.YtjohdbiipeedkabGreatDoor.Kit
namespace Go.Proofs.YtjohdbiipeedkabGreatDoor
open Go Go.RowKit Go.Proofs.YtjohdbiipeedkabGreatDoor.Kit
def Off (b : Nat) (y : Hx) : Prop := Away b y ∧ ∀ a, y.zo = some a → a.block ≠ b
theorem off_old {w : World} {b : Nat} {y : Hx} (h : y.At w) (hz : y.hp.zones.length = 2) (hb : w.heap.size ≤ b) : Off b y :=
 ⟨away_old h hb, (awayL_old h hb).z (by have e : y.hp.zones.length = y.zs.length := (by show (y.zs.map _).length = _; rw [List.length_map]); omega)⟩
theorem Off.but {w w' : World} {b : Nat} {y : Hx} (h : Off b y) (hy : y.At w) (hw : But b w w') : y.At w' := at_butA hy hw h.1 h.2
def prB (b : Bk) : Int × Int := (b.a, b.o)
structure PgI (B : Nat) (H0 : Hp) (W : World) (y : Hx) (aw : List Bk) (vo : Option Addr) (vn vc : Nat) : Prop where
 at_ : y.At W
 may : HMay y.hp
 cpus : y.hp.cpus = H0.cpus
 ft : SameFT y.hp H0
 occ : ∀ q, occ y.hp q = occ H0 q
 own : W.ownsRow B 45 3 (.slice vo vn vc) vn (bvals aw)
 perm : (aw.map prB).Perm (y.hp.live.map prB)
 off : ∀ a, vo = some a → Off a.block y
theorem PgI.below {B : Nat} {H0 : Hp} {W W' : World} {y : Hx} {aw : List Bk} {vo : Option Addr} {vn vc : Nat} (h : PgI B H0 W y aw vo vn vc) (hb : Below W.heap.size W W') : PgI B H0 W' y aw vo vn vc :=
 ⟨h.at_.below hb, h.may, h.cpus, h.ft, h.occ, owns_below h.own hb (Nat.le_refl _), h.perm, h.off⟩
theorem PgI.but {B b : Nat} {H0 : Hp} {W W' : World} {y : Hx} {aw : List Bk} {vo : Option Addr} {vn vc : Nat} (h : PgI B H0 W y aw vo vn vc) (hb : But b W W') (ho : Off b y) (hv : ∀ a, vo = some a → a.block ≠ b) : PgI B H0 W' y aw vo vn vc :=
 ⟨ho.but h.at_ hb, h.may, h.cpus, h.ft, h.occ, owns_butN h.own hb hv, h.perm, h.off⟩
theorem PgI.len {B : Nat} {H0 : Hp} {W : World} {y : Hx} {aw : List Bk} {vo : Option Addr} {vn vc : Nat} (h : PgI B H0 W y aw vo vn vc) : aw.length = vn ∧ vn = y.live.length ∧ vn ≤ 256 := by
 have h1 := bowns_len h.own
 have h2 := h.perm.length_eq
 rw [List.length_map, List.length_map] at h2
 have h3 := live_few h.may.lv
 have h4 : y.hp.live.length = y.live.length := rfl
 omega
theorem PgI.blks {B : Nat} {H0 : Hp} {W : World} {y : Hx} {aw : List Bk} {vo : Option Addr} {vn vc : Nat} (h : PgI B H0 W y aw vo vn vc) : Blks W vo vn aw := blks_own h.own (by have := h.len; omega)
theorem addB_perm (l : List Bk) (b : Bk) : (addB l b).Perm (b :: l) := by
 induction l with
 | nil => exact .refl _
 | cons x l ih =>
  unfold addB
  split
  ·exact .refl _
  exact (ih.cons x).trans (List.Perm.swap b x l)
theorem erase_perm {α : Type} {l : List α} {i : Nat} (h : i < l.length) : (l[i] :: l.eraseIdx i).Perm l := by
 have e : l = l.take i ++ l[i] :: l.drop (i + 1) := by rw [← List.drop_eq_getElem_cons h, List.take_append_drop]
 rw [List.eraseIdx_eq_take_drop_succ]
 refine (List.perm_middle.symm.trans ?_)
 rw [← e]
theorem away_find {l aw : List Bk} (hp : (aw.map prB).Perm (l.map prB)) (hl : LvsOk l) {j : Nat} (hj : j < aw.length) :
    ∃ i, i < l.length ∧ (l.getD i .zero).a = (aw.getD j .zero).a ∧ (∀ k, k < i → (l.getD k .zero).a ≠ (aw.getD j .zero).a) ∧ ((aw.eraseIdx j).map prB).Perm ((l.eraseIdx i).map prB) := by
 have hm : prB aw[j] ∈ l.map prB := hp.mem_iff.1 (List.mem_map.2 ⟨_, List.getElem_mem hj, rfl⟩)
 obtain ⟨b, hb, e⟩ := List.mem_map.1 hm
 obtain ⟨i, hi, rfl⟩ := List.getElem_of_mem hb
 have g1 : l.getD i .zero = l[i] := by rw [List.getD_eq_getElem?_getD, List.getElem?_eq_getElem hi]; rfl
 have g2 : aw.getD j .zero = aw[j] := by rw [List.getD_eq_getElem?_getD, List.getElem?_eq_getElem hj]; rfl
 have ea : l[i].a = aw[j].a := congrArg Prod.fst e
 refine ⟨i, hi, by rw [g1, g2, ea], fun k hk => ?_, ?_⟩
 ·have g3 : l.getD k .zero = l[k]'(by omega) := by rw [List.getD_eq_getElem?_getD, List.getElem?_eq_getElem (by omega)]; rfl
  have := List.pairwise_iff_getElem.1 (lvs_iff.1 hl).2 k i (by omega) hi hk
  rw [g3, g2, ← ea]
  omega
 have p1 := (erase_perm hj).map prB
 have p2 := (erase_perm hi).map prB
 rw [List.map_cons] at p1 p2
 rw [e] at p2
 exact (p1.trans (hp.trans p2.symm)).cons_inv
theorem alloc_perm {aw l : List Bk} (h : (aw.map prB).Perm (l.map prB)) (p o t t' : Int) : ((aw ++ [(⟨p, o, t⟩ : Bk)]).map prB).Perm ((addB l ⟨p, o, t'⟩).map prB) := by
 rw [List.map_append]
 refine (List.perm_append_comm).trans ?_
 exact (h.cons (p, o)).trans ((addB_perm l ⟨p, o, t'⟩).map prB).symm
theorem sft_trans {H G F : Hp} (h : SameFT H G) (g : SameFT G F) : SameFT H F := fun i => ⟨(h i).1.trans (g i).1, (h i).2.trans (g i).2⟩
theorem app_own3 (w : World) (ty : TypeId) (B : Nat) (ao : Option Addr) (n cap : Nat) (l : List Bk) (b : Bk) (gb : Nat) (ho : w.ownsRow B 45 3 (.slice ao n cap) n (bvals l)) (hn : n ≤ 300) (hb : w.heap[gb]? = some (.cells #[.int .i64 b.a, .int .i64 b.o, .int .i64 b.t] 45 (0, 0))) (hB : B ≤ w.heap.size) :
    ∃ g' c' W, (Builtin.append_ #[32, 32] ty #[.slice ao n cap, .slice (some ⟨gb, 0, none⟩) 1 1]).run Tryz.prog w = .ok (.slice (some ⟨g', 0, none⟩) (n + 1) c') W ∧ W.ownsRow B 45 3 (.slice (some ⟨g', 0, none⟩) (n + 1) c') (n + 1) (bvals (l ++ [b])) ∧ ((ao = some ⟨g', 0, none⟩ ∧ But g' w W) ∨ (g' = w.heap.size ∧ Below w.heap.size w W)) := by
 obtain ⟨i1, hj, hy0, hy1, hy2⟩ := info_parts info_block
 have hnews : ∀ j v, (bvals [b])[j]? = some v → w.cell? ((⟨gb, 0, none⟩ : Addr).add j) = some v := by
  intro j v hjv
  rw [add_at, Nat.zero_add]
  simp only [World.cell?, hb]
  change ([Value.int .i64 b.a, .int .i64 b.o, .int .i64 b.t] : List Value)[j]? = some v at hjv
  simpa using hjv
 obtain ⟨g', c', W, hrun, ow, hcs⟩ := append_row (P := Tryz.prog) w B 32 ty 45 i1 _ 3 Tryz.underlying32 hj hy0 hy1 rfl ao n cap (bvals l) ho ⟨gb, 0, none⟩ 1 1 (bvals [b]) rfl hnews (bvals_oneCell _) (by omega) (by unfold maxLen; omega) (by rw [hy2]; omega) hB
 exact ⟨g', c', W, hrun, by rw [bvals_append]; exact ow, hcs⟩
theorem bs_int7 (a b c d e x y : Int) (w : World) : (Instr.buildSlice 30 7 #[(0, .int .i64 a), (1, .int .i64 b), (2, .int .i64 c), (3, .int .i64 d), (4, .int .i64 e), (5, .int .i64 x), (6, .int .i64 y)]).run Tryz.prog w = .ok (.slice (some ⟨w.heap.size, 0, none⟩) 7 7) (w.alloc (.cells #[.int .i64 a, .int .i64 b, .int .i64 c, .int .i64 d, .int .i64 e, .int .i64 x, .int .i64 y] 3)) := by
 simp [go_sem]
theorem bs_int5 (a b c d e : Int) (w : World) : (Instr.buildSlice 30 5 #[(0, .int .i64 a), (1, .int .i64 b), (2, .int .i64 c), (3, .int .i64 d), (4, .int .i64 e)]).run Tryz.prog w = .ok (.slice (some ⟨w.heap.size, 0, none⟩) 5 5) (w.alloc (.cells #[.int .i64 a, .int .i64 b, .int .i64 c, .int .i64 d, .int .i64 e] 3)) := by
 simp [go_sem]
theorem row7_at {w : World} {g : Nat} (h : w.heap[g]? = some (.cells #[.int .i64 0, .int .i64 0, .int .i64 0, .int .i64 1, .int .i64 2, .int .i64 3, .int .i64 4] 3 (0, 0))) {j : Nat} (hj : j < 7) : ∃ o : Int, ordOk o ∧ w.cell? ⟨g, 0 + j * 1, none⟩ = some (.int .i64 o) := by
 rcases (show j = 0 ∨ j = 1 ∨ j = 2 ∨ j = 3 ∨ j = 4 ∨ j = 5 ∨ j = 6 by omega) with rfl | rfl | rfl | rfl | rfl | rfl | rfl
 ·exact ⟨0, by unfold ordOk; omega, cell_of_row w g 0 _ _ _ h⟩
 ·exact ⟨0, by unfold ordOk; omega, cell_of_row w g 1 _ _ _ h⟩
 ·exact ⟨0, by unfold ordOk; omega, cell_of_row w g 2 _ _ _ h⟩
 ·exact ⟨1, by unfold ordOk; omega, cell_of_row w g 3 _ _ _ h⟩
 ·exact ⟨2, by unfold ordOk; omega, cell_of_row w g 4 _ _ _ h⟩
 ·exact ⟨3, by unfold ordOk; omega, cell_of_row w g 5 _ _ _ h⟩
 exact ⟨4, by unfold ordOk; omega, cell_of_row w g 6 _ _ _ h⟩
def flA (j : Nat) : Int := [0, 2, 4, 1, 8].getD j 0
theorem row5_at {w : World} {g : Nat} (h : w.heap[g]? = some (.cells #[.int .i64 0, .int .i64 2, .int .i64 4, .int .i64 1, .int .i64 8] 3 (0, 0))) {j : Nat} (hj : j < 5) : w.cell? ⟨g, 0 + j * 1, none⟩ = some (.int .i64 (flA j)) := by
 rcases (show j = 0 ∨ j = 1 ∨ j = 2 ∨ j = 3 ∨ j = 4 by omega) with rfl | rfl | rfl | rfl | rfl
 ·exact cell_of_row w g 0 _ _ _ h
 ·exact cell_of_row w g 1 _ _ _ h
 ·exact cell_of_row w g 2 _ _ _ h
 ·exact cell_of_row w g 3 _ _ _ h
 exact cell_of_row w g 4 _ _ _ h
theorem flA_ok {j : Nat} (hj : j < 5) : flagsOk (flA j) ∧ -9223372036854775808 ≤ flA j ∧ flA j ≤ 9223372036854775807 := by
 rcases (show j = 0 ∨ j = 1 ∨ j = 2 ∨ j = 3 ∨ j = 4 by omega) with rfl | rfl | rfl | rfl | rfl <;> decide
theorem raws_at {w : World} {ao : Option Addr} {n cap : Nat} {l : List Raw4} (h : IsRaws w ao n cap l) {i : Nat} (hi : i < n) :
    ∃ g o rk ra rb rc, ao = some ⟨g, o, none⟩ ∧ w.cell? ⟨g, o + i * 4, none⟩ = some (.int .i64 rk) ∧ w.cell? ⟨g, o + i * 4 + 1, none⟩ = some (.int .i64 ra) ∧ w.cell? ⟨g, o + i * 4 + 2, none⟩ = some (.int .i64 rb) ∧ w.cell? ⟨g, o + i * 4 + 3, none⟩ = some (.int .i64 rc) ∧
     (Lit.int .i64 rk).wf = true ∧ (Lit.int .i64 ra).wf = true ∧ (Lit.int .i64 rb).wf = true ∧ (Lit.int .i64 rc).wf = true ∧ rc = (l.getD i .zero).c := by
 obtain ⟨g, o, e, h1, h2, h3, h4⟩ := h.at_ i (by rw [h.len]; exact hi)
 have hw := h.wf i hi
 exact ⟨g, o, _, _, _, _, e, h1, h2, h3, h4, hw.k, hw.a, hw.b, hw.c, rfl⟩
structure Clo (fls : Int → Prop) (J : Hp → Prop) : Prop where
 alloc : ∀ (H G : Hp) (cpu o fl p : Int), HMay H → J H → fls fl → ordOk o → (0 ≤ cpu ∧ cpu ≤ H.cpus - 1) → find2H H cpu o fl = some (G, p) → J { G with live := addB G.live ⟨p, o, typeF fl⟩ }
 free : ∀ (H : Hp) (cpu : Int) (i : Nat), HMay H → J H → (0 ≤ cpu ∧ cpu ≤ H.cpus - 1) → i < H.live.length → J (releaseH { H with live := H.live.eraseIdx i } cpu (H.live.getD i .zero))
 drain : ∀ H : Hp, HMay H → J H → J (emptyH H)
def Rch (fls : Int → Prop) (H0 H : Hp) : Prop := ∀ J : Hp → Prop, Clo fls J → J H0 → J H
theorem Rch.refl (fls : Int → Prop) (H : Hp) : Rch fls H H := fun _ _ h => h
theorem Rch.alloc {fls : Int → Prop} {H0 H G : Hp} {cpu o fl p : Int} (h : Rch fls H0 H) (hM : HMay H) (hf : fls fl) (ho : ordOk o) (hc : 0 ≤ cpu ∧ cpu ≤ H.cpus - 1) (hd : find2H H cpu o fl = some (G, p)) : Rch fls H0 { G with live := addB G.live ⟨p, o, typeF fl⟩ } := fun J hJ h0 => hJ.alloc H G cpu o fl p hM (h J hJ h0) hf ho hc hd
theorem Rch.free {fls : Int → Prop} {H0 H : Hp} {cpu : Int} {i : Nat} (h : Rch fls H0 H) (hM : HMay H) (hc : 0 ≤ cpu ∧ cpu ≤ H.cpus - 1) (hi : i < H.live.length) : Rch fls H0 (releaseH { H with live := H.live.eraseIdx i } cpu (H.live.getD i .zero)) := fun J hJ h0 => hJ.free H cpu i hM (h J hJ h0) hc hi
theorem Rch.drain {fls : Int → Prop} {H0 H : Hp} (h : Rch fls H0 H) (hM : HMay H) : Rch fls H0 (emptyH H) := fun J hJ h0 => hJ.drain H hM (h J hJ h0)
def rawFl (l : List Raw4) (fl : Int) : Prop := ∃ i, i < l.length ∧ fl = flA (pickN (l.getD i .zero).c 5)
def AllocD (x : Hx) (cpu o fl : Int) (s : Nat) (W : World) (v0 v1 v2 v3 v4 : Value) (p er : Int) : Prop :=
 er = 6 ∨ (er = 0 ∧ ∃ (y2 : Hx) (G : Hp), find2H x.hp cpu o fl = some (G, p) ∧ v0 = .slice y2.zo y2.zn y2.zc ∧ v1 = .slice y2.mo y2.mn y2.mc ∧ v2 = .int .i64 y2.cpus ∧ v3 = .slice y2.lo y2.ln y2.lc ∧ v4 = .slice y2.vo y2.vn y2.vc ∧ y2.At W ∧ y2.hp = { G with live := addB G.live ⟨p, o, typeF fl⟩ } ∧ FreshH s y2)
theorem AllocD.below {x : Hx} {cpu o fl : Int} {s : Nat} {W W' : World} {v0 v1 v2 v3 v4 : Value} {p er : Int} (h : AllocD x cpu o fl s W v0 v1 v2 v3 v4 p er) (hb : Below W.heap.size W W') : AllocD x cpu o fl s W' v0 v1 v2 v3 v4 p er :=
 h.imp id fun ⟨e, y2, G, h1, h2, h3, h4, h5, h6, h7, h8⟩ => ⟨e, y2, G, h1, h2, h3, h4, h5, h6, h7.below hb, h8⟩
theorem AllocD.but {x : Hx} {cpu o fl : Int} {s b : Nat} {W W' : World} {v0 v1 v2 v3 v4 : Value} {p er : Int} (h : AllocD x cpu o fl s W v0 v1 v2 v3 v4 p er) (hb : But b W W') (hs : b < s) : AllocD x cpu o fl s W' v0 v1 v2 v3 v4 p er :=
 h.imp id fun ⟨e, y2, G, h1, h2, h3, h4, h5, h6, h7, h8, h9⟩ => ⟨e, y2, G, h1, h2, h3, h4, h5, h6, Off.but (h9 b hs) h7 hb, h8, h9⟩
theorem AllocD.less {x : Hx} {cpu o fl : Int} {s t : Nat} {W : World} {v0 v1 v2 v3 v4 : Value} {p er : Int} (h : AllocD x cpu o fl s W v0 v1 v2 v3 v4 p er) (hs : t ≤ s) : AllocD x cpu o fl t W v0 v1 v2 v3 v4 p er :=
 h.imp id fun ⟨e, y2, G, h1, h2, h3, h4, h5, h6, h7, h8, h9⟩ => ⟨e, y2, G, h1, h2, h3, h4, h5, h6, h7, h8, fun b hb => h9 b (by omega)⟩
theorem pAlloc_un (w : World) (x : Hx) (cpu o fl : Int) (hx : x.At w) (hM : HMay x.hp) (hT : TabAt w) (hc : 0 ≤ cpu ∧ cpu ≤ x.cpus - 1) (ho : ordOk o) (hf1 : -9223372036854775808 ≤ fl) (hf2 : fl ≤ 9223372036854775807) (hf : flagsOk fl) :
    Calls Tryz.prog 6 #[.agg #[.slice x.zo x.zn x.zc, .slice x.mo x.mn x.mc, .int .i64 x.cpus, .slice x.lo x.ln x.lc, .slice x.vo x.vn x.vc], .int .i64 cpu, .int .i64 o, .int .i64 fl] w fun e w' => (∃ v0 v1 v2 v3 v4 p er, e = .returned (.tuple #[.agg #[v0, v1, v2, v3, v4], .int .i64 p, .int .i64 er]) ∧ v0.oneCell' = true ∧ v1.oneCell' = true ∧ v2.oneCell' = true ∧ v3.oneCell' = true ∧ v4.oneCell' = true ∧ AllocD x cpu o fl w.heap.size w' v0 v1 v2 v3 v4 p er) ∧ Below w.heap.size w w' := by
 refine (pAlloc_fr w x cpu o fl hx hM hT hc ho hf1 hf2 hf).mono ?_
 rintro e w' ⟨⟨_, rfl⟩ | ⟨y2, G, p, h1, rfl, h2, h3, h4⟩, hb⟩
 ·exact ⟨⟨_, _, _, _, _, _, _, rfl, rfl, rfl, rfl, rfl, rfl, .inl rfl⟩, hb⟩
 exact ⟨⟨_, _, _, _, _, _, _, rfl, rfl, rfl, rfl, rfl, rfl, .inr ⟨rfl, y2, G, h1, rfl, rfl, rfl, rfl, rfl, h2, h3, h4⟩⟩, hb⟩
end Go.Proofs.YtjohdbiipeedkabGreatDoor
