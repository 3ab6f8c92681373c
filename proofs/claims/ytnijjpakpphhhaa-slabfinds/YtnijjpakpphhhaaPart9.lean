/-
  OWN TEXTS.
-/
import Derived.Test.YtnijjpakpphhhaaPart8
import Derived.Deep.RegionHeld3
import Derived.Deep.RegionWith
set_option maxRecDepth 10000
set_option maxHeartbeats 4000000
namespace Go.Proofs.Ytnijjpakpphhhaa
open Go Go.RowKit Go.Proofs.Ytnijjpakpphhhaa.Kit
structure LssOkX (x : Hx) : Prop where
 ok : ∀ i, i < x.ln → LsOkX x (x.ls.getD i .zero).l
 ord : ∀ i, 0 < i → i < x.ln → aheadL (x.ls.getD (i - 1) .zero).l (x.ls.getD i .zero).l
def LssTo (x : Hx) (k : Nat) : Prop := (∀ i, i < k → LsOkX x (x.ls.getD i .zero).l) ∧ ∀ i, 0 < i → i < k → aheadL (x.ls.getD (i - 1) .zero).l (x.ls.getD i .zero).l
theorem pListsMay_any (w : World) (x : Hx) (hx : x.At w) :
    Calls Try.prog 29 #[.agg #[.slice x.zo x.zn x.zc, .slice x.mo x.mn x.mc, .int .i64 x.cpus, .slice x.lo x.ln x.lc, .slice x.vo x.vn x.vc]] w fun e w' => RetIff e (LssOkX x) ∧ Below w.heap.size w w' := by
 obtain ⟨lo, hlo⟩ : ∃ lo, x.lo = lo := ⟨_, rfl⟩
 have hL := hx.lists
 rw [hlo] at hL ⊢
 have HLO : Hid (x.lo = lo) := hlo
 clear hlo
 have hb1 := below_box w (.cells #[.slice x.zo x.zn x.zc, .slice x.mo x.mn x.mc, .int .i64 x.cpus, .slice lo x.ln x.lc, .slice x.vo x.vn x.vc] 27)
 have A1 := hbox_new w (.slice x.zo x.zn x.zc) (.slice x.mo x.mn x.mc) (.int .i64 x.cpus) (.slice lo x.ln x.lc) (.slice x.vo x.vn x.vc) 27
 obtain ⟨W0, hW0⟩ : ∃ W0, w.alloc (.cells #[.slice x.zo x.zn x.zc, .slice x.mo x.mn x.mc, .int .i64 x.cpus, .slice lo x.ln x.lc, .slice x.vo x.vn x.vc] 27) = W0 := ⟨_, rfl⟩
 rw [hW0] at A1 hb1
 have HW0 : Hid _ := hW0
 clear hW0
 replace hx := hx.below hb1
 replace hL := hL.below hb1
 have rl := hx.lists.reach
 have hln := hx.lists.len
 have a3 := A1.c3
 have HNo : Hid (∀ e, (e = Ending.returned (.bool false)) → ¬ LssOkX x → RetIff e (LssOkX x)) := fun e he hn => ⟨false, he, by simp [hn]⟩
 go_enter Try.func29, Try.ntmps29
 go_wp2_with (rw [HW0.out])
 clear HW0 a3
 go_loopw [8] (fun iv wr => ∃ k : Nat, k ≤ x.ln ∧ iv = .int .i64 k ∧ Hid (LssTo x k) ∧ Below W0.heap.size W0 wr) (fun iv _ => x.ln - (intOf iv).toNat)
 case atStart => exact ⟨0, Nat.zero_le _, rfl, ⟨fun i hi => by omega, fun i _ hi => by omega⟩, Below.refl _ _⟩
 case round =>
  obtain ⟨k, hk, rfl, hTo, hB⟩ := hrel
  by_cases hlt : k < x.ln
  ·obtain ⟨g, off, c, z, t, pages, po, pn, pc, ha, c0, c1, c2, c3, hat, hz⟩ := (hL.below hB).at k hlt
   have hbb := below_box wr (.cells #[.int .i64 c, .int .i64 z, .int .i64 t, .slice po pn pc] 77)
   have ZB := zbox_new wr (.int .i64 c) (.int .i64 z) (.int .i64 t) (.slice po pn pc) 77
   obtain ⟨Wb, hWb⟩ : ∃ Wb, wr.alloc (.cells #[.int .i64 c, .int .i64 z, .int .i64 t, .slice po pn pc] 77) = Wb := ⟨_, rfl⟩
   rw [hWb] at hbb ZB
   have HWb : Hid _ := hWb
   clear hWb
   have hBb := hB.trans (hbb.mono hB.size)
   have B1 := A1.below hBb
   have a0 := B1.c0
   have a1 := B1.c1
   have a2 := B1.c2
   have a3 := B1.c3
   have a4 := B1.c4
   have z0 := ZB.c0
   have z1 := ZB.c1
   have z2 := ZB.c2
   have z3 := ZB.c3
   have HL := pListMay_any Wb x ⟨c, z, t, pages⟩ po pn pc (hx.below hBb) (hat.below hbb)
   dsimp only at HL
   subst ha
   rw [HLO.out] at HL
   go_wp2_with (rw [HWb.out])
   go_at_call 55
   refine HL.mono ?_
   rintro e W2 ⟨⟨r, rfl, hr⟩, hb2⟩
   have HR : Hid (r = true ↔ LsOkX x (x.ls.getD k .zero).l) := by show _ ↔ _; rw [hz.out]; exact hr
   have hB2 := hBb.trans (hb2.mono hBb.size)
   have B2 := A1.below hB2
   have a3' := B2.c3
   replace ZB := ZB.below hb2
   clear HL a0 a1 a2 a3 a4 z0 z1 z2 z3 HWb B1 hr
   have z0 := ZB.c0
   have z1 := ZB.c1
   have z2 := ZB.c2
   have z3 := ZB.c3
   cases r with
   | false =>
    have hn : Hid (¬ LssOkX x) := fun h => absurd (HR.out.2 (h.ok k hlt)) (by simp)
    have hBB := hb1.trans (hB2.mono hb1.size)
    clear HR hTo
    go_wp2
    go_ret
    exact ⟨HNo.out _ rfl hn.out, hBB⟩
   | true =>
    have hok := HR.out.1 rfl
    by_cases h0 : k = 0
    ·have HT : Hid (LssTo x (k + 1)) := by
      refine ⟨fun i hi => ?_, fun i h1 h2 => by omega⟩
      obtain rfl : i = k := by omega
      exact hok
     have H0 : Hid (k = 0) := h0
     clear HR hTo hok hz h0
     go_wp2_with fail
     obtain ⟨K, hK⟩ : ∃ K : Int, (k : Int) = K := ⟨_, rfl⟩
     rw [hK]
     have h0 := H0.out
     have t0 : decide ((0 : Int) < K) = false := decide_eq_false (by omega)
     have HK : Hid ((k : Int) = K) := hK
     have k1 : K = 0 := by omega
     clear h0 hK k1
     have k2 : K ≤ 0 := by have := of_decide_eq_false t0; omega
     have k3 : 0 ≤ K := by have := HK.out; omega
     go_quiet (fail)
     go_wp2
     go_roundw
     case rel => exact ⟨k + 1, by omega, by rw [← HK.out]; go_num, HT, hB2.trans ((below_drawn _).mono hB2.size)⟩
     case measure => rw [← HK.out]; simp [intOf]; omega
    ·obtain ⟨j, hj⟩ : ∃ j, j + 1 = k := ⟨k - 1, by omega⟩
     obtain ⟨g', off', c', z', t', pages', po', pn', pc', ha', d0, d1, d2, d3, hat', hz'⟩ := (hL.below hB2).at j (by omega)
     simp only [Option.some.injEq, Addr.mk.injEq, and_true] at ha'
     obtain ⟨rfl, rfl⟩ := ha'
     have tj : (j : Int) < (x.ln : Int) := by omega
     have HO : Hid (∀ W, Below W2.heap.size W2 W → Calls Try.prog 56 #[.agg #[.int .i64 c', .int .i64 z', .int .i64 t', .slice po' pn' pc'], .agg #[.int .i64 c, .int .i64 z, .int .i64 t, .slice po pn pc]] W fun e w' => e = .returned (.int .i64 (ownC ⟨c', z', t', pages'⟩ ⟨c, z, t, pages⟩)) ∧ Below W2.heap.size W2 w') := fun W hS => by
      refine (pByOwner_any W ⟨c', z', t', pages'⟩ ⟨c, z, t, pages⟩ (.slice po' pn' pc') (.slice po pn pc)).mono ?_
      rintro e w' ⟨rfl, hb⟩
      exact ⟨rfl, hS.trans (hb.mono hS.size)⟩
     obtain ⟨C, hC⟩ : ∃ C, ownC ⟨c', z', t', pages'⟩ ⟨c, z, t, pages⟩ = C := ⟨_, rfl⟩
     have hrg := ownC_range ⟨c', z', t', pages'⟩ ⟨c, z, t, pages⟩
     have hng := ownC_neg ⟨c', z', t', pages'⟩ ⟨c, z, t, pages⟩
     rw [hC] at HO hrg hng
     have HN : Hid (C < 0 ↔ aheadL (x.ls.getD j .zero).l (x.ls.getD k .zero).l) := by show _ ↔ _; rw [hz.out, hz'.out]; exact hng
     obtain ⟨r1, r2⟩ := hrg
     have m0 : ∀ wx, Below W2.heap.size W2 wx → wx.cell? ⟨w.heap.size, 3, none⟩ = some (.slice (some ⟨g, off, none⟩) x.ln x.lc) := fun wx h => keep a3' h
     have m1 : ∀ wx, Below W2.heap.size W2 wx → wx.cell? ⟨g, off + j * 4, none⟩ = some (.int .i64 c') := fun wx h => keep d0 h
     have m2 : ∀ wx, Below W2.heap.size W2 wx → wx.cell? ⟨g, off + j * 4 + 1, none⟩ = some (.int .i64 z') := fun wx h => keep d1 h
     have m3 : ∀ wx, Below W2.heap.size W2 wx → wx.cell? ⟨g, off + j * 4 + 2, none⟩ = some (.int .i64 t') := fun wx h => keep d2 h
     have m4 : ∀ wx, Below W2.heap.size W2 wx → wx.cell? ⟨g, off + j * 4 + 3, none⟩ = some (.slice po' pn' pc') := fun wx h => keep d3 h
     have n0 : ∀ wx, Below W2.heap.size W2 wx → wx.cell? ⟨wr.heap.size, 0, none⟩ = some (.int .i64 c) := fun wx h => keep z0 h
     have n1 : ∀ wx, Below W2.heap.size W2 wx → wx.cell? ⟨wr.heap.size, 1, none⟩ = some (.int .i64 z) := fun wx h => keep z1 h
     have n2 : ∀ wx, Below W2.heap.size W2 wx → wx.cell? ⟨wr.heap.size, 2, none⟩ = some (.int .i64 t) := fun wx h => keep z2 h
     have n3 : ∀ wx, Below W2.heap.size W2 wx → wx.cell? ⟨wr.heap.size, 3, none⟩ = some (.slice po pn pc) := fun wx h => keep z3 h
     have S0 : Below W2.heap.size W2 W2 := Below.refl _ _
     have hTo' : Hid (aheadL (x.ls.getD j .zero).l (x.ls.getD k .zero).l → LssTo x (k + 1)) := fun hah => ⟨fun i hi => by
         by_cases e : i = k
         ·rw [e]; exact hok
         ·exact hTo.out.1 i (by omega), fun i h1 h2 => by
         by_cases e : i = k
         ·rw [e, ← hj]; rw [← hj] at hah; exact hah
         ·exact hTo.out.2 i h1 (by omega)⟩
     clear hC hng hz hz' hat hat' HR hTo hok c0 c1 c2 c3 d0 d1 d2 d3 z0 z1 z2 z3 a3' B2 ZB
     have HJ : Hid _ := hj
     clear hj
     go_wp2_with fail
     obtain ⟨K, hK⟩ : ∃ K : Int, (k : Int) = K := ⟨_, rfl⟩
     rw [hK]
     have t0 : (0 : Int) < K := by omega
     have t1 : decide ((0 : Int) < K) = true := decide_eq_true t0
     have ek : K - 1 = (j : Int) := by have := HJ.out; omega
     have kb : K ≤ 140737488351232 := by omega
     have ew : IntKind.i64.wrap (K - 1) = (j : Int) := by rw [ek]; exact IntWalk.i64_in _ (by omega)
     have ewj : IntKind.i64.wrap (j : Int) = (j : Int) := IntWalk.i64_in _ (by omega)
     clear ek
     have t2 : (0 : Int) ≤ (j : Int) := by omega
     have t3 : (j : Int) ≤ (x.ln : Int) := by omega
     have t4 : j < x.ln := by omega
     have HK : Hid ((k : Int) = K) := hK
     clear hK
     go_region_held3 (fun wx => Below W2.heap.size W2 wx) (first | assumption | exact Below.drew (by assumption))
      (first
       | (go_at_call 56; refine (HO.out _ ?_).mono ?_; assumption; rintro e w3 ⟨rfl, hS3⟩))
     have hB3 := hB2.trans (hS3.mono hB2.size)
     by_cases hC : C < 0
     ·have HT := hTo'.out (HN.out.1 hC)
      have HT' : Hid _ := HT
      clear HT HN hTo' HO m0 m1 m2 m3 m4 n0 n1 n2 n3 S0
      go_wp2
      go_roundw
      case rel => exact ⟨k + 1, by omega, by rw [← HK.out]; go_num, HT', hB3⟩
      case measure => rw [← HK.out]; simp [intOf]; omega
     ·have hn : Hid (¬ LssOkX x) := fun h => hC (HN.out.2 (by have := h.ord k (by omega) hlt; rw [show k - 1 = j by have := HJ.out; omega] at this; exact this))
      have hBB := hb1.trans (hB3.mono hb1.size)
      clear HN hTo' HO m0 m1 m2 m3 m4 n0 n1 n2 n3 S0
      go_wp2
      go_ret
      exact ⟨HNo.out _ rfl hn.out, hBB⟩
  ·have hY : Hid (LssOkX x) := ⟨fun i hi => hTo.out.1 i (by omega), fun i h1 h2 => hTo.out.2 i h1 (by omega)⟩
   have hBB := hb1.trans (hB.mono hb1.size)
   clear hTo
   go_wp2
   go_ret
   exact ⟨⟨true, rfl, fun _ => hY.out, fun _ => rfl⟩, hBB⟩
def LvTo (l : List Bk) (k : Nat) : Prop := (∀ i, i < k → LvOk (l.getD i .zero)) ∧ ∀ i, 0 < i → i < k → (l.getD (i - 1) .zero).a < (l.getD i .zero).a
def leastL (l : List Bk) (k : Nat) : Int := if k = 0 then 0 else (l.getD (k - 1) .zero).a + 1
theorem sameQ {F : Nat} {args : Array Value} {v : Value} (h : ∀ w : World, Calls Try.prog F args w fun e w' => e = .returned v ∧ w = w') (w : World) : Calls Try.prog F args w fun e w' => e = .returned v ∧ w' = w := (h w).mono fun _ _ ⟨a, b⟩ => ⟨a, b.symm⟩
theorem pLiveMay_any (w : World) (ao : Option Addr) (n cap : Nat) (l : List Bk) (h : Blks w ao n l) :
    Calls Try.prog 30 #[.slice ao n cap] w fun e w' => RetIff e (LvsOk l) ∧ Below w.heap.size w w' := by
 have hn := h.len
 have hr := h.reach
 have HNo : Hid (∀ e, (e = Ending.returned (.bool false)) → ¬ LvsOk l → RetIff e (LvsOk l)) := fun e he hn => ⟨false, he, by simp [hn]⟩
 go_enter Try.func30, Try.ntmps30
 go_wp2
 go_loopw [3, 8] (fun lv iv wr => ∃ (k : Nat) (L : Int), k ≤ n ∧ lv = .int .i64 L ∧ iv = .int .i64 k ∧ Hid (L = leastL l k) ∧ Hid (LvTo l k) ∧ Below w.heap.size w wr) (fun _ iv _ => n - (intOf iv).toNat)
 case atStart => exact ⟨0, 0, Nat.zero_le _, rfl, rfl, rfl, ⟨fun i hi => by omega, fun i _ hi => by omega⟩, Below.refl _ _⟩
 case round =>
  obtain ⟨k, L, hk, rfl, rfl, hL, HTo, hB⟩ := hrel
  have l0 : 0 ≤ L ∧ L ≤ 256 := by
   rw [hL.out]
   unfold leastL
   by_cases e : k = 0
   ·rw [if_pos e]; omega
   ·rw [if_neg e]; have := (HTo.out.1 (k - 1) (by omega)).a; omega
  obtain ⟨l1, l2⟩ := l0
  by_cases hlt : k < n
  ·obtain ⟨b, off, a, o, t, rfl, c0, c1, c2, HX⟩ := (h.below hB).at_.at k (by omega)
   have hbb := below_box wr (.cells #[.int .i64 a, .int .i64 o, .int .i64 t] 72)
   have y0 : (wr.alloc (.cells #[.int .i64 a, .int .i64 o, .int .i64 t] 72)).cell? ⟨wr.heap.size, 0, none⟩ = some (.int .i64 a) := by go_simp
   have y1 : (wr.alloc (.cells #[.int .i64 a, .int .i64 o, .int .i64 t] 72)).cell? ⟨wr.heap.size, 1, none⟩ = some (.int .i64 o) := by go_simp
   have y2 : (wr.alloc (.cells #[.int .i64 a, .int .i64 o, .int .i64 t] 72)).cell? ⟨wr.heap.size, 2, none⟩ = some (.int .i64 t) := by go_simp
   obtain ⟨Wb, hWb⟩ : ∃ Wb, wr.alloc (.cells #[.int .i64 a, .int .i64 o, .int .i64 t] 72) = Wb := ⟨_, rfl⟩
   rw [hWb] at hbb y0 y1 y2
   have HWb : Hid _ := hWb
   have hBb := hB.trans (hbb.mono hB.size)
   clear hWb
   have HOrd := sameQ fun W => pIsOrder_any W o
   have HTyp := sameQ fun W => pIsType_any W t
   go_wp2_with (rw [HWb.out])
   clear HWb c0 c1 c2 hbb
   by_cases h1 : ordOk o
   ·rw [inB_t (show 0 ≤ o ∧ o ≤ 4 from h1)] at HOrd
    by_cases h2 : typeOk t
    ·rw [inB_t (show 0 ≤ t ∧ t ≤ 2 from h2)] at HTyp
     by_cases h3 : a < L
     ·have d3 : decide (a < L) = true := decide_eq_true h3
      have hn : Hid (¬ LvsOk l) := fun h => by
       have hk := h.ok k (by omega)
       rw [HX.out] at hk
       by_cases e : k = 0
       ·have := hL.out; unfold leastL at this; rw [if_pos e] at this; have := hk.a; dsimp only at this; omega
       ·have h5 := hL.out; unfold leastL at h5; rw [if_neg e] at h5; have := h.ord k (by omega) (by omega); rw [HX.out] at this; dsimp only at this; omega
      clear HTo HX hL
      go_quiet (first | (go_at_call 57; exact Calls.quiet_of_same (HOrd _)) | (go_at_call 58; exact Calls.quiet_of_same (HTyp _)))
      go_wp2
      go_ret
      exact ⟨HNo.out _ rfl hn.out, hBb.trans ((below_drawn _).mono hBb.size)⟩
     ·have d3 : decide (a < L) = false := decide_eq_false h3
      by_cases h4 : 256 ≤ a
      ·have d4 : decide ((256 : Int) ≤ a) = true := decide_eq_true h4
       have hn : Hid (¬ LvsOk l) := fun h => by
        have hk := h.ok k (by omega)
        rw [HX.out] at hk
        have := hk.a; dsimp only at this; omega
       clear HTo HX hL
       go_quiet (first | (go_at_call 57; exact Calls.quiet_of_same (HOrd _)) | (go_at_call 58; exact Calls.quiet_of_same (HTyp _)))
       go_wp2
       go_ret
       exact ⟨HNo.out _ rfl hn.out, hBb.trans ((below_drawn _).mono hBb.size)⟩
      ·have d4 : decide ((256 : Int) ≤ a) = false := decide_eq_false h4
       have a0 : 0 ≤ a := by omega
       have hp := pw_pos o
       have hp16 := pw_le h1
       have hw1 : IntKind.i64.wrap ((2 : Int) ^ o.toNat) = pw o := by rcases ord_cases h1 with ⟨rfl, e⟩ | ⟨rfl, e⟩ | ⟨rfl, e⟩ | ⟨rfl, e⟩ | ⟨rfl, e⟩ <;> (rw [e]; rfl)
       obtain ⟨P, hP⟩ : ∃ P, pw o = P := ⟨_, rfl⟩
       have HP : Hid (pw o = P) := hP
       rw [hP] at hp hp16 hw1
       obtain ⟨M, hM⟩ : ∃ M : Int, a.tmod P = M := ⟨_, rfl⟩
       have hM2 : Hid (M = a % P) := by show _ = _; rw [← hM, Int.tmod_eq_emod_of_nonneg a0]
       have m1 : 0 ≤ M := by rw [hM2.out]; exact Int.emod_nonneg _ (by omega)
       have m2 : M < 16 := by rw [hM2.out]; have := Int.emod_lt_of_pos a (show 0 < P by omega); omega
       have hwM : IntKind.i64.wrap M = M := IntWalk.i64_in _ (by omega)
       have hP0 : (P == 0) = false := by simp; omega
       have hem : a % P = M := hM2.out.symm
       obtain ⟨o0, o4⟩ := id h1
       clear hP
       by_cases h5 : M = 0
       ·have d5 : (M == 0) = true := by simp [h5]
        have hok : LvOk ⟨a, o, t⟩ := ⟨h1, ⟨a0, by show a < 256; omega⟩, by show a % pw o = 0; rw [HP.out, ← hM2.out]; exact h5, h2⟩
        have HT : Hid (LvTo l (k + 1)) := ⟨fun i hi => by
            by_cases e : i = k
            ·rw [e, HX.out]; exact hok
            ·exact HTo.out.1 i (by omega), fun i g1 g2 => by
            by_cases e : i = k
            ·rw [e, HX.out]
             have := hL.out
             unfold leastL at this
             rw [if_neg (by omega)] at this
             show _ < a
             omega
            ·exact HTo.out.2 i g1 (by omega)⟩
        have HL2 : Hid (a + 1 = leastL l (k + 1)) := by
         show _ = _
         unfold leastL
         rw [if_neg (by omega), show k + 1 - 1 = k by omega, HX.out]
        clear HTo hL HX hok h5
        go_quiet (first | (go_at_call 57; exact Calls.quiet_of_same (HOrd _)) | (go_at_call 58; exact Calls.quiet_of_same (HTyp _)))
        have hB9 := hBb.trans ((below_drawn nq).mono hBb.size)
        replace y0 := keep y0 (below_drawn nq)
        generalize Wb.drewN nq = W9 at hB9 y0 ⊢
        clear hw1 hM hwM hem HOrd HTyp y1 y2
        go_wp2
        go_roundw
        case rel => exact ⟨k + 1, a + 1, by omega, rfl, by go_num, HL2, HT, hB9⟩
        case measure => simp [intOf]; omega
       ·have d5 : (M == 0) = false := by simpa using h5
        have hn : Hid (¬ LvsOk l) := fun h => by
         have hk := h.ok k (by omega)
         rw [HX.out] at hk
         have := hk.m
         dsimp only at this
         rw [HP.out, ← hM2.out] at this
         exact h5 this
        clear HTo HX hL
        go_quiet (first | (go_at_call 57; exact Calls.quiet_of_same (HOrd _)) | (go_at_call 58; exact Calls.quiet_of_same (HTyp _)))
        go_wp2
        go_ret
        exact ⟨HNo.out _ rfl hn.out, hBb.trans ((below_drawn _).mono hBb.size)⟩
    ·rw [inB_f (show ¬ (0 ≤ t ∧ t ≤ 2) from h2)] at HTyp
     have hn : Hid (¬ LvsOk l) := fun h => by
      have hk := h.ok k (by omega)
      rw [HX.out] at hk
      exact h2 hk.t
     clear HTo HX hL
     go_quiet (first | (go_at_call 57; exact Calls.quiet_of_same (HOrd _)) | (go_at_call 58; exact Calls.quiet_of_same (HTyp _)))
     go_wp2
     go_ret
     exact ⟨HNo.out _ rfl hn.out, hBb.trans ((below_drawn _).mono hBb.size)⟩
   ·rw [inB_f (show ¬ (0 ≤ o ∧ o ≤ 4) from h1)] at HOrd
    have hn : Hid (¬ LvsOk l) := fun h => by
     have hk := h.ok k (by omega)
     rw [HX.out] at hk
     exact h1 hk.o
    clear HTo HX hL
    go_quiet (first | (go_at_call 57; exact Calls.quiet_of_same (HOrd _)) | (go_at_call 58; exact Calls.quiet_of_same (HTyp _)))
    go_wp2
    go_ret
    exact ⟨HNo.out _ rfl hn.out, hBb.trans ((below_drawn _).mono hBb.size)⟩
  ·have hY : Hid (LvsOk l) := ⟨fun i hi => HTo.out.1 i (by omega), fun i h1 h2 => HTo.out.2 i h1 (by omega)⟩
   clear HTo hL
   go_wp2
   go_ret
   exact ⟨⟨true, rfl, fun _ => hY.out, fun _ => rfl⟩, hB⟩
theorem isType_any (w : World) (x : Int) :
    Calls Try.prog 89 #[.int .i64 x] w fun e w' => e = .returned (.bool (inB x 0 2)) ∧ w = w' := by
 by_cases h1 : 0 ≤ x
 ·by_cases h2 : x < 3
  ·have HR : Hid (inB x 0 2 = true) := inB_t (by omega)
   go_enter Try.func89, Try.ntmps89
   go_wp2
   go_ret
   exact ⟨ret_bool HR.out.symm, rfl⟩
  ·have HR : Hid (inB x 0 2 = false) := inB_f (by omega)
   go_enter Try.func89, Try.ntmps89
   go_wp2
   go_ret
   exact ⟨ret_bool HR.out.symm, rfl⟩
 ·have HR : Hid (inB x 0 2 = false) := inB_f (by omega)
  go_enter Try.func89, Try.ntmps89
  go_wp2
  go_ret
  exact ⟨ret_bool HR.out.symm, rfl⟩
theorem isOrder_any (w : World) (x : Int) :
    Calls Try.prog 97 #[.int .i64 x] w fun e w' => e = .returned (.bool (inB x 0 4)) ∧ w = w' := by
 by_cases h1 : 0 ≤ x
 ·by_cases h2 : x ≤ 4
  ·have HR : Hid (inB x 0 4 = true) := inB_t (by omega)
   go_enter Try.func97, Try.ntmps97
   go_wp2
   go_ret
   exact ⟨ret_bool HR.out.symm, rfl⟩
  ·have HR : Hid (inB x 0 4 = false) := inB_f (by omega)
   go_enter Try.func97, Try.ntmps97
   go_wp2
   go_ret
   exact ⟨ret_bool HR.out.symm, rfl⟩
 ·have HR : Hid (inB x 0 4 = false) := inB_f (by omega)
  go_enter Try.func97, Try.ntmps97
  go_wp2
  go_ret
  exact ⟨ret_bool HR.out.symm, rfl⟩
theorem isPage_any (w : World) (f t : Int) (fo to_ : Option Addr) (fn fc tn tc : Nat) (a : Int) :
    Calls Try.prog 98 #[.agg #[.int .i64 f, .int .i64 t, .slice fo fn fc, .slice to_ tn tc], .int .i64 a] w fun e w' => e = .returned (.bool (inB a f (t - 1))) ∧ Below w.heap.size w w' := by
 have hb1 := below_box w (.cells #[.int .i64 f, .int .i64 t, .slice fo fn fc, .slice to_ tn tc] 70)
 by_cases h1 : f ≤ a
 ·by_cases h2 : a < t
  ·have HR : Hid (inB a f (t - 1) = true) := inB_t (by omega)
   go_enter Try.func98, Try.ntmps98
   go_wp2
   go_ret
   exact ⟨ret_bool HR.out.symm, hb1⟩
  ·have HR : Hid (inB a f (t - 1) = false) := inB_f (by omega)
   go_enter Try.func98, Try.ntmps98
   go_wp2
   go_ret
   exact ⟨ret_bool HR.out.symm, hb1⟩
 ·have HR : Hid (inB a f (t - 1) = false) := inB_f (by omega)
  go_enter Try.func98, Try.ntmps98
  go_wp2
  go_ret
  exact ⟨ret_bool HR.out.symm, hb1⟩
theorem behind_any (w : World) (a o x : Int) (ho : ordOk o) (h0 : 0 ≤ a) (h1 : a ≤ 256) :
    Calls Try.prog 91 #[.agg #[.int .i64 a, .int .i64 o, .int .i64 x]] w fun e w' => e = .returned (.int .i64 (a + pw o)) ∧ Below w.heap.size w w' := by
 have hb1 := below_box w (.cells #[.int .i64 a, .int .i64 o, .int .i64 x] 72)
 rcases ord_cases ho with ⟨rfl, e⟩ | ⟨rfl, e⟩ | ⟨rfl, e⟩ | ⟨rfl, e⟩ | ⟨rfl, e⟩
 all_goals
  rw [e]
  clear e ho
  go_enter Try.func91, Try.ntmps91
  go_wp2
  go_quiet (fail)
  go_wp2
  go_ret
  exact ⟨rfl, below_drewN hb1 _⟩
theorem blkMay_any (w : World) (f t : Int) (fo to_ : Option Addr) (fn fc tn tc : Nat) (a o : Int) (h : newOk f t) :
    Calls Try.prog 90 #[.agg #[.int .i64 f, .int .i64 t, .slice fo fn fc, .slice to_ tn tc], .int .i64 a, .int .i64 o] w fun e w' => e = .returned (.bool (blkB f t a o)) ∧ Below w.heap.size w w' := by
 obtain ⟨h1, h2, h3, h4, h5⟩ := h
 have hb1 := below_box w (.cells #[.int .i64 f, .int .i64 t, .slice fo fn fc, .slice to_ tn tc] 70)
 have Z0 := zbox_new w (.int .i64 f) (.int .i64 t) (.slice fo fn fc) (.slice to_ tn tc) 70
 have c0 := Z0.c0
 have c1 := Z0.c1
 have c2 := Z0.c2
 have c3 := Z0.c3
 by_cases p1 : 0 ≤ o ∧ o ≤ 4
 ·have e1 : Hid (inB o 0 4 = true) := inB_t p1
  by_cases p2 : f ≤ a ∧ a ≤ t - 1
  ·have e2 : Hid (inB a f (t - 1) = true) := inB_t p2
   obtain ⟨A, rfl⟩ : ∃ A : Nat, a = A := ⟨a.toNat, by omega⟩
   obtain ⟨r, hr⟩ : ∃ r, blkB f t (A : Int) o = r := ⟨_, rfl⟩
   rw [hr]
   rcases ord_cases p1 with ⟨rfl, e⟩ | ⟨rfl, e⟩ | ⟨rfl, e⟩ | ⟨rfl, e⟩ | ⟨rfl, e⟩
   all_goals
    unfold blkB at hr
    rw [e1.out, e2.out, e, Bool.true_and, Bool.true_and] at hr
    have HR : Hid _ := hr
    clear hr e p1
    go_enter Try.func90, Try.ntmps90
    go_wp2_with fail
    go_at_call 97
    refine (isOrder_any _ _).mono ?_
    rintro e w' ⟨rfl, rfl⟩
    rw [e1.out]
    go_wp2_with fail
    go_at_call 98
    refine (isPage_any _ _ _ _ _ _ _ _ _ _).mono ?_
    rintro e w2 ⟨rfl, hb2⟩
    rw [e2.out]
    have hB := hb1.trans (hb2.mono hb1.size)
    clear c0 c1 c2 c3 Z0
    go_wp2
    go_ret
    exact ⟨ret_bool (by first | exact HR.out | (rw [← HR.out]; simp)), hB⟩
  ·have e2 : Hid (inB a f (t - 1) = false) := inB_f p2
   have HR : Hid (blkB f t a o = false) := by show _ = _; unfold blkB; rw [e1.out, e2.out]; rfl
   go_enter Try.func90, Try.ntmps90
   go_wp2_with fail
   go_at_call 97
   refine (isOrder_any _ _).mono ?_
   rintro e w' ⟨rfl, rfl⟩
   rw [e1.out]
   go_wp2_with fail
   go_at_call 98
   refine (isPage_any _ _ _ _ _ _ _ _ _ _).mono ?_
   rintro e w2 ⟨rfl, hb2⟩
   rw [e2.out]
   have hB := hb1.trans (hb2.mono hb1.size)
   clear c0 c1 c2 c3 Z0
   go_wp2
   go_ret
   exact ⟨ret_bool HR.out.symm, hB⟩
 ·have e1 : Hid (inB o 0 4 = false) := inB_f p1
  have HR : Hid (blkB f t a o = false) := by show _ = _; unfold blkB; rw [e1.out]; rfl
  go_enter Try.func90, Try.ntmps90
  go_wp2_with fail
  go_at_call 97
  refine (isOrder_any _ _).mono ?_
  rintro e w' ⟨rfl, rfl⟩
  rw [e1.out]
  go_wp2
  go_ret
  exact ⟨ret_bool HR.out.symm, hb1⟩
theorem xor_0 : ∀ a : Nat, a < 256 → bits BinOp.xor IntKind.i64 (a : Int) 1 = besideA a 0 := by decide +kernel
theorem xor_1 : ∀ a : Nat, a < 256 → a % 2 = 0 → bits BinOp.xor IntKind.i64 (a : Int) 2 = besideA a 1 := by decide +kernel
theorem xor_2 : ∀ a : Nat, a < 256 → a % 4 = 0 → bits BinOp.xor IntKind.i64 (a : Int) 4 = besideA a 2 := by decide +kernel
theorem xor_3 : ∀ a : Nat, a < 256 → a % 8 = 0 → bits BinOp.xor IntKind.i64 (a : Int) 8 = besideA a 3 := by decide +kernel
theorem beside_any (w : World) (a : Nat) (o : Int) (ho : ordOk o) (h4 : o < 4) (h1 : a < 256) (hm : (a : Int) % pw o = 0) :
    Calls Try.prog 99 #[.int .i64 a, .int .i64 o] w fun e w' => e = .returned (.int .i64 (besideA a o)) ∧ w = w' := by
 rcases ord_cases ho with ⟨rfl, e⟩ | ⟨rfl, e⟩ | ⟨rfl, e⟩ | ⟨rfl, e⟩ | ⟨rfl, e⟩
 ·have HX : Hid (bits BinOp.xor IntKind.i64 (a : Int) 1 = besideA a 0) := xor_0 a h1
  clear e ho hm
  go_enter Try.func99, Try.ntmps99
  go_wp2
  go_ret
  exact ⟨congrArg (fun v => Ending.returned (.int .i64 v)) HX.out, rfl⟩
 ·rw [e] at hm
  have HX : Hid (bits BinOp.xor IntKind.i64 (a : Int) 2 = besideA a 1) := xor_1 a h1 (by omega)
  clear e ho hm
  go_enter Try.func99, Try.ntmps99
  go_wp2
  go_ret
  exact ⟨congrArg (fun v => Ending.returned (.int .i64 v)) HX.out, rfl⟩
 ·rw [e] at hm
  have HX : Hid (bits BinOp.xor IntKind.i64 (a : Int) 4 = besideA a 2) := xor_2 a h1 (by omega)
  clear e ho hm
  go_enter Try.func99, Try.ntmps99
  go_wp2
  go_ret
  exact ⟨congrArg (fun v => Ending.returned (.int .i64 v)) HX.out, rfl⟩
 ·rw [e] at hm
  have HX : Hid (bits BinOp.xor IntKind.i64 (a : Int) 8 = besideA a 3) := xor_3 a h1 (by omega)
  clear e ho hm
  go_enter Try.func99, Try.ntmps99
  go_wp2
  go_ret
  exact ⟨congrArg (fun v => Ending.returned (.int .i64 v)) HX.out, rfl⟩
 ·omega
def areB (p b : Bk) : Bool := decide (p.o = b.o) && (decide (p.o < 4) && decide (b.a = besideA p.a p.o))
theorem areB_iff {p b : Bk} (h : p.a + pw p.o ≤ b.a) : areB p b = true ↔ besideP p b := by
 unfold areB besideP besideA
 simp only [Bool.and_eq_true, decide_eq_true_eq]
 have := pw_pos p.o
 constructor
 ·rintro ⟨h1, h2, h3⟩
  rw [← h1]
  split at h3
  ·exact ⟨h2, rfl, h3.symm, by assumption⟩
  ·omega
 ·rintro ⟨h1, h2, h3, h4⟩
  rw [← h2] at h1 h3 h4
  rw [if_pos h4]
  exact ⟨h2, h1, h3.symm⟩
theorem areBeside_any (w : World) (p b : Bk) (hp : ordOk p.o) (h0 : 0 ≤ p.a) (h1 : p.a < 256) (hm : p.a % pw p.o = 0) :
    Calls Try.prog 92 #[.agg #[.int .i64 p.a, .int .i64 p.o, .int .i64 p.t], .agg #[.int .i64 b.a, .int .i64 b.o, .int .i64 b.t]] w fun e w' => e = .returned (.bool (areB p b)) ∧ Below w.heap.size w w' := by
 obtain ⟨pa, po, pt⟩ := p
 obtain ⟨ba, bo, bt⟩ := b
 dsimp only at hp h0 h1 hm ⊢
 obtain ⟨A, rfl⟩ : ∃ A : Nat, pa = A := ⟨pa.toNat, by omega⟩
 have hb2 : Below w.heap.size w ((w.alloc (.cells #[.int .i64 A, .int .i64 po, .int .i64 pt] 72)).alloc (.cells #[.int .i64 ba, .int .i64 bo, .int .i64 bt] 72)) := ((Below.refl _ _).alloc (Nat.le_refl _) _).alloc (by simp) _
 obtain ⟨r, hr⟩ : ∃ r, areB ⟨A, po, pt⟩ ⟨ba, bo, bt⟩ = r := ⟨_, rfl⟩
 rw [hr]
 have HR : Hid (areB ⟨A, po, pt⟩ ⟨ba, bo, bt⟩ = r) := hr
 clear hr
 by_cases q1 : po = bo
 ·subst q1
  by_cases q2 : po < 4
  ·have HC := fun W => (beside_any W A po hp q2 (by omega) hm).mono (fun e w' (g : e = .returned (.int .i64 (besideA A po)) ∧ W = w') => (show e = .returned (.int .i64 (besideA A po)) ∧ w' = W from ⟨g.1, g.2.symm⟩))
   have q2' : decide (po < 4) = true := decide_eq_true q2
   have HR2 : Hid (decide (ba = besideA A po) = r) := by show _ = _; rw [← HR.out]; unfold areB; simp [q2]
   obtain ⟨X, hX⟩ : ∃ X, besideA A po = X := ⟨_, rfl⟩
   rw [hX] at HC HR2
   clear hX HR hm
   go_enter Try.func92, Try.ntmps92
   go_wp2
   go_quiet ((go_at_call 99; exact Calls.quiet_of_same (HC _)))
   clear HC
   go_wp2
   go_ret
   exact ⟨ret_bool HR2.out, below_drewN hb2 _⟩
  ·have HR2 : Hid (false = r) := by show _ = _; rw [← HR.out]; unfold areB; simp [q2]
   have q2' : decide (po < 4) = false := decide_eq_false q2
   clear HR hm
   go_enter Try.func92, Try.ntmps92
   go_wp2
   go_quiet (fail)
   go_wp2
   go_ret
   exact ⟨ret_bool HR2.out, below_drewN hb2 _⟩
 ·have HR2 : Hid (false = r) := by show _ = _; rw [← HR.out]; unfold areB; simp [q1]
  have q1' : (po == bo) = false := by simpa using q1
  clear HR hm q1
  go_enter Try.func92, Try.ntmps92
  go_wp2
  go_quiet (fail)
  go_wp2
  go_ret
  exact ⟨ret_bool HR2.out, below_drewN hb2 _⟩
def newB (f t : Int) : Bool := decide (0 ≤ f ∧ f ≤ t ∧ t ≤ 256 ∧ f % 16 = 0 ∧ t % 16 = 0)
theorem newB_iff (f t : Int) : newB f t = true ↔ newOk f t := by unfold newB newOk; simp
theorem newB_t {f t : Int} (h : newOk f t) : newB f t = true := (newB_iff f t).2 h
theorem newB_f {f t : Int} (h : ¬ newOk f t) : newB f t = false := by
 cases g : newB f t with
 | false => rfl
 | true => exact absurd ((newB_iff f t).1 g) h
theorem bounds_any (w : World) (f t : Int) :
    Calls Try.prog 71 #[.int .i64 f, .int .i64 t] w fun e w' => e = .returned (.bool (newB f t)) ∧ w = w' := by
 by_cases h1 : 0 ≤ f
 ·by_cases h2 : f ≤ t
  ·by_cases h3 : t ≤ 256
   ·obtain ⟨F, rfl⟩ : ∃ F : Nat, f = F := ⟨f.toNat, by omega⟩
    obtain ⟨T, rfl⟩ : ∃ T : Nat, t = T := ⟨t.toNat, by omega⟩
    by_cases h4 : (F : Int) % 16 = 0
    ·by_cases h5 : (T : Int) % 16 = 0
     ·have HR : Hid (newB F T = true) := newB_t ⟨h1, h2, h3, h4, h5⟩
      go_enter Try.func71, Try.ntmps71
      go_wp2
      go_ret
      exact ⟨ret_bool HR.out.symm, rfl⟩
     ·have HR : Hid (newB F T = false) := newB_f fun g => h5 g.2.2.2.2
      have h5' : ((T : Int) % 16 == 0) = false := by simpa using h5
      clear h5
      go_enter Try.func71, Try.ntmps71
      go_wp2
      go_ret
      exact ⟨ret_bool HR.out.symm, rfl⟩
    ·have HR : Hid (newB F T = false) := newB_f fun g => h4 g.2.2.2.1
     have h4' : ((F : Int) % 16 == 0) = false := by simpa using h4
     clear h4
     go_enter Try.func71, Try.ntmps71
     go_wp2
     go_ret
     exact ⟨ret_bool HR.out.symm, rfl⟩
   ·have HR : Hid (newB f t = false) := newB_f fun g => h3 g.2.2.1
    go_enter Try.func71, Try.ntmps71
    go_wp2
    go_ret
    exact ⟨ret_bool HR.out.symm, rfl⟩
  ·have HR : Hid (newB f t = false) := newB_f fun g => h2 g.2.1
   go_enter Try.func71, Try.ntmps71
   go_wp2
   go_ret
   exact ⟨ret_bool HR.out.symm, rfl⟩
 ·have HR : Hid (newB f t = false) := newB_f fun g => h1 g.1
  go_enter Try.func71, Try.ntmps71
  go_wp2
  go_ret
  exact ⟨ret_bool HR.out.symm, rfl⟩
structure CkInv (w : World) (fo : Option Addr) (fn fc : Nat) (to_ : Option Addr) (tn tc : Nat) (z : Zn) (W : World) : Prop where
 b : Below w.heap.size w W
 box : ZBox W w.heap.size (.int .i64 z.f) (.int .i64 z.t) (.slice fo fn fc) (.slice to_ tn tc)
 zn : ZnAt W fo fn to_ tn z
theorem CkInv.step {w : World} {fo : Option Addr} {fn fc : Nat} {to_ : Option Addr} {tn tc : Nat} {z : Zn} {W W' : World} (h : CkInv w fo fn fc to_ tn tc z W) (hb : Below W.heap.size W W') : CkInv w fo fn fc to_ tn tc z W' :=
 ⟨h.b.trans (hb.mono h.b.size), h.box.below hb, h.zn.below hb⟩
theorem ckInv_first (w : World) (fo : Option Addr) (fn fc : Nat) (to_ : Option Addr) (tn tc : Nat) (z : Zn) (h : ZnAt w fo fn to_ tn z) : CkInv w fo fn fc to_ tn tc z (w.alloc (.cells #[.int .i64 z.f, .int .i64 z.t, .slice fo fn fc, .slice to_ tn tc] 70)) :=
 ⟨below_box _ _, zbox_new _ _ _ _ _ _, h.below (below_box _ _)⟩
def TypesP (z : Zn) : Prop := 8 * (z.types.length : Int) = z.t - z.f ∧ ∀ i, i < z.types.length → typeOk (z.types.getD i 0)
theorem typesMay_any (w : World) (fo : Option Addr) (fn fc : Nat) (to_ : Option Addr) (tn tc : Nat) (z : Zn) (h : ZnAt w fo fn to_ tn z) (hN : newOk z.f z.t) :
    Calls Try.prog 72 #[.agg #[.int .i64 z.f, .int .i64 z.t, .slice fo fn fc, .slice to_ tn tc]] w fun e w' => RetIff e (TypesP z) ∧ Below w.heap.size w w' := by
 have I0 := ckInv_first w fo fn fc to_ tn tc z h
 obtain ⟨n1, n2, n3, n4, n5⟩ := hN
 have c0 := I0.box.c0
 have c1 := I0.box.c1
 have c3 := I0.box.c3
 have htl := h.types.len
 have hrc := h.types.reach
 obtain ⟨D, hD⟩ : ∃ D : Nat, z.t - z.f = (D : Int) := ⟨(z.t - z.f).toNat, by omega⟩
 obtain ⟨N, hq⟩ : ∃ N : Nat, (D : Int) / 8 = (N : Int) := ⟨D / 8, by omega⟩
 clear h
 by_cases hlen : tn = N
 ·subst hlen
  have hL : Hid (8 * (z.types.length : Int) = z.t - z.f) := by show _ = _; omega
  obtain ⟨W0, hW0⟩ : ∃ W0, w.alloc (.cells #[.int .i64 z.f, .int .i64 z.t, .slice fo fn fc, .slice to_ tn tc] 70) = W0 := ⟨_, rfl⟩
  have HW0 : Hid _ := hW0
  rw [hW0] at I0 c0 c1 c3
  clear hW0
  have htd : ((tn : Int) == (tn : Int)) = true := by simp
  go_enter Try.func72, Try.ntmps72
  go_wp2_with (rw [HW0.out])
  clear HW0 c0 c1 c3 htd hD hq
  go_loopw [18] (fun iv wr => ∃ k : Nat, k ≤ tn ∧ iv = .int .i64 k ∧ Hid (∀ i, i < k → typeOk (z.types.getD i 0)) ∧ W0 = wr) (fun iv _ => tn - (intOf iv).toNat)
  case atStart => exact ⟨0, Nat.zero_le _, rfl, (fun i hi => absurd hi (Nat.not_lt_zero i)), rfl⟩
  case round =>
   obtain ⟨k, hk, rfl, hT, rfl⟩ := hrel
   by_cases hlt : k < tn
   ·obtain ⟨b, o, x, rfl, cx, hX⟩ := I0.zn.types.at_.at k (by omega)
    by_cases hx : 0 ≤ x ∧ x ≤ 2
    ·have e1 : Hid (inB x 0 2 = true) := inB_t hx
     have hT' : Hid (∀ i, i < k + 1 → typeOk (z.types.getD i 0)) := fun i hi => by
      by_cases e : i = k
      ·rw [e, hX.out]; exact hx
      ·exact hT.out i (by omega)
     clear hT hx
     go_wp2_with fail
     go_at_call 89
     refine (isType_any _ _).mono ?_
     rintro e w' ⟨rfl, rfl⟩
     rw [e1.out]
     go_wp2
     go_roundw
     case rel => exact ⟨k + 1, by omega, by go_num, hT', trivial⟩
     case measure => simp [intOf]; omega
    ·have e1 : Hid (inB x 0 2 = false) := inB_f hx
     have HF : Hid (¬ TypesP z) := fun g => hx (by have := g.2 k (by omega); rw [hX.out] at this; exact this)
     have hbb := I0.b
     clear hT hx I0
     go_wp2_with fail
     go_at_call 89
     refine (isType_any _ _).mono ?_
     rintro e w' ⟨rfl, rfl⟩
     rw [e1.out]
     go_wp2
     go_ret
     exact ⟨⟨false, rfl, fun g => (by cases g), fun g => absurd g HF.out⟩, hbb⟩
   ·have HM : Hid (TypesP z) := ⟨hL.out, fun i hi => hT.out i (by omega)⟩
    have hbb := I0.b
    clear hT I0 hL
    go_wp2
    go_ret
    exact ⟨⟨true, rfl, fun _ => HM.out, fun _ => rfl⟩, hbb⟩
 ·have HF : Hid (¬ TypesP z) := fun g => hlen (by have := g.1; omega)
  have hlen' : ((tn : Int) == N) = false := by simp; omega
  go_enter Try.func72, Try.ntmps72
  go_wp2
  go_ret
  exact ⟨⟨false, rfl, fun g => (by cases g), fun g => absurd g HF.out⟩, I0.b⟩
theorem freeMay_any (w : World) (fo : Option Addr) (fn fc : Nat) (to_ : Option Addr) (tn tc : Nat) (z : Zn) (h : ZnAt w fo fn to_ tn z) (hN : newOk z.f z.t) :
    Calls Try.prog 73 #[.agg #[.int .i64 z.f, .int .i64 z.t, .slice fo fn fc, .slice to_ tn tc]] w fun e w' => RetIff e (FreeOk z.f z.t z.f none z.free) ∧ Below w.heap.size w w' := by
 have I0 := ckInv_first w fo fn fc to_ tn tc z h
 have c2 := I0.box.c2
 have hfl := h.free.len
 have hfr := h.free.reach
 clear h
 obtain ⟨W0, hW0⟩ : ∃ W0, w.alloc (.cells #[.int .i64 z.f, .int .i64 z.t, .slice fo fn fc, .slice to_ tn tc] 70) = W0 := ⟨_, rfl⟩
 have HW0 : Hid _ := hW0
 rw [hW0] at I0 c2
 clear hW0
 obtain ⟨n1, n2, n3, n4, n5⟩ := id hN
 go_enter Try.func73, Try.ntmps73
 go_wp2_with (rw [HW0.out])
 clear HW0 c2
 go_loopw [9] (fun iv wr => ∃ k : Nat, k ≤ fn ∧ iv = .int .i64 k ∧ Hid (FreeOk z.f z.t z.f none (z.free.take k)) ∧ CkInv w fo fn fc to_ tn tc z wr) (fun iv _ => fn - (intOf iv).toNat)
 case atStart => exact ⟨0, Nat.zero_le _, rfl, trivial, I0⟩
 case round =>
  obtain ⟨k, hk, rfl, hF, I⟩ := hrel
  clear I0
  by_cases hlt : k < fn
  ·obtain ⟨bb, bf, x, y, u, rfl, x0, x1, x2, hX⟩ := I.zn.free.at_.at k (by omega)
   have htk := take_getD z.free k (by omega) hX.out
   have hbx := below_box wr (.cells #[.int .i64 x, .int .i64 y, .int .i64 u] 72)
   have I3 := I.step hbx
   have y0 : (wr.alloc (.cells #[.int .i64 x, .int .i64 y, .int .i64 u] 72)).cell? ⟨wr.heap.size, 0, none⟩ = some (.int .i64 x) := by go_simp
   have y1 : (wr.alloc (.cells #[.int .i64 x, .int .i64 y, .int .i64 u] 72)).cell? ⟨wr.heap.size, 1, none⟩ = some (.int .i64 y) := by go_simp
   have y2 : (wr.alloc (.cells #[.int .i64 x, .int .i64 y, .int .i64 u] 72)).cell? ⟨wr.heap.size, 2, none⟩ = some (.int .i64 u) := by go_simp
   have b0 := I3.box.c0
   have b1 := I3.box.c1
   have b2 := I3.box.c2
   have b3 := I3.box.c3
   go_wp2_with fail
   go_at_call 90
   refine (blkMay_any _ z.f z.t _ to_ fn fc tn tc x y hN).mono ?_
   rintro e w4 ⟨rfl, hb4⟩
   have I4 := I3.step hb4
   replace y0 := keep y0 hb4
   replace y1 := keep y1 hb4
   replace y2 := keep y2 hb4
   clear I I3 hbx b0 b1 b2 b3 x0 x1 x2 hb4
   have hbb := I4.b
   by_cases hB : blkIn z.f z.t x y
   ·have hB2 := (blkB_iff z.f z.t x y).2 hB
    rw [hB2]
    clear hB2
    obtain ⟨o1, o2, o3, o4⟩ := id hB
    by_cases hU : 0 ≤ u ∧ u ≤ 2
    ·have e1 : Hid (inB u 0 2 = true) := inB_t hU
     go_wp2_with fail
     go_at_call 89
     refine (isType_any _ _).mono ?_
     rintro e w' ⟨rfl, rfl⟩
     rw [e1.out]
     by_cases hk0 : k = 0
     ·subst hk0
      have hF' : Hid (FreeOk z.f z.t z.f none (z.free.take (0 + 1))) := by
       show FreeOk _ _ _ _ _
       rw [htk, freeOk_snoc]
       exact ⟨hF.out, hB, hU, o2, fun p hp => by cases hp⟩
      clear hF htk
      go_wp2
      go_roundw
      case rel => exact ⟨0 + 1, by omega, by go_num, hF', I4⟩
      case measure => simp [intOf]; omega
     ·obtain ⟨j, rfl⟩ : ∃ j, k = j + 1 := ⟨k - 1, by omega⟩
      obtain ⟨bb', bf', x', y', u', he, p0, p1, p2, hX'⟩ := I4.zn.free.at_.at j (by omega)
      cases he
      have hpv := freeOk_at hF.out (k := j) (by simp; omega) (b := ⟨x', y', u'⟩) (by
       have := hX'.out
       rw [List.getD_eq_getElem?_getD, List.getElem?_take, if_pos (by omega), ← List.getD_eq_getElem?_getD]
       exact this)
      obtain ⟨⟨v1, v2, v3, v4⟩, _, _, _⟩ := hpv
      dsimp only at v1 v2 v3 v4
      have htj := take_getD z.free j (by omega) hX'.out
      have hlast : lastOf none (z.free.take (j + 1)) = some ⟨x', y', u'⟩ := by rw [htj, lastOf_snoc]
      have hlow : lowOf z.f (z.free.take (j + 1)) = x' + pw y' := by rw [htj, lowOf_snoc]
      have c2 := I4.box.c2
      have hji : ((j + 1 : Nat) : Int) - 1 = (j : Int) := by omega
      have hjj : ((j + 1 : Nat) : Int) = (j : Int) + 1 := by simp
      have hj1 : (j : Int) < fn := by omega
      have hj2 : j < fn := by omega
      have hj0 : ((j : Int) + 1 == 0) = false := by simp; omega
      clear hbb
      go_wp2_with fail
      have hbx5 := below_box w4 (.cells #[.int .i64 x', .int .i64 y', .int .i64 u'] 72)
      have I5 := I4.step hbx5
      have l0 : (w4.alloc (.cells #[.int .i64 x', .int .i64 y', .int .i64 u'] 72)).cell? ⟨w4.heap.size, 0, none⟩ = some (.int .i64 x') := by go_simp
      have l1 : (w4.alloc (.cells #[.int .i64 x', .int .i64 y', .int .i64 u'] 72)).cell? ⟨w4.heap.size, 1, none⟩ = some (.int .i64 y') := by go_simp
      have l2 : (w4.alloc (.cells #[.int .i64 x', .int .i64 y', .int .i64 u'] 72)).cell? ⟨w4.heap.size, 2, none⟩ = some (.int .i64 u') := by go_simp
      replace y0 := keep y0 hbx5
      replace y1 := keep y1 hbx5
      replace y2 := keep y2 hbx5
      obtain ⟨W5, hW5⟩ : ∃ W5, w4.alloc (.cells #[.int .i64 x', .int .i64 y', .int .i64 u'] 72) = W5 := ⟨_, rfl⟩
      rw [hW5] at I5 l0 l1 l2 y0 y1 y2 ⊢
      clear hW5 hbx5 I4 c2 p0 p1 p2
      have m0 : ∀ wx, Below W5.heap.size W5 wx → wx.cell? ⟨wr.heap.size, 0, none⟩ = some (.int .i64 x) := fun wx h => keep y0 h
      have m1 : ∀ wx, Below W5.heap.size W5 wx → wx.cell? ⟨wr.heap.size, 1, none⟩ = some (.int .i64 y) := fun wx h => keep y1 h
      have m2 : ∀ wx, Below W5.heap.size W5 wx → wx.cell? ⟨wr.heap.size, 2, none⟩ = some (.int .i64 u) := fun wx h => keep y2 h
      have r0 : ∀ wx, Below W5.heap.size W5 wx → wx.cell? ⟨w4.heap.size, 0, none⟩ = some (.int .i64 x') := fun wx h => keep l0 h
      have r1 : ∀ wx, Below W5.heap.size W5 wx → wx.cell? ⟨w4.heap.size, 1, none⟩ = some (.int .i64 y') := fun wx h => keep l1 h
      have r2 : ∀ wx, Below W5.heap.size W5 wx → wx.cell? ⟨w4.heap.size, 2, none⟩ = some (.int .i64 u') := fun wx h => keep l2 h
      obtain ⟨E, hE⟩ : ∃ E, x' + pw y' = E := ⟨_, rfl⟩
      have HBeh : Hid (∀ W, Below W5.heap.size W5 W → Calls Try.prog 91 #[.agg #[.int .i64 x', .int .i64 y', .int .i64 u']] W fun e w' => e = .returned (.int .i64 E) ∧ Below W5.heap.size W5 w') := fun W hS => by
       rw [← hE]
       refine (behind_any W x' y' u' v1 (by omega) (by omega)).mono ?_
       rintro e w' ⟨rfl, hb⟩
       exact ⟨rfl, hS.trans (hb.mono hS.size)⟩
      obtain ⟨R, hR⟩ : ∃ R, areB ⟨x', y', u'⟩ ⟨x, y, u⟩ = R := ⟨_, rfl⟩
      have HAre : Hid (∀ W, Below W5.heap.size W5 W → Calls Try.prog 92 #[.agg #[.int .i64 x', .int .i64 y', .int .i64 u'], .agg #[.int .i64 x, .int .i64 y, .int .i64 u]] W fun e w' => e = .returned (.bool R) ∧ Below W5.heap.size W5 w') := fun W hS => by
       rw [← hR]
       refine (areBeside_any W ⟨x', y', u'⟩ ⟨x, y, u⟩ v1 (by dsimp only; omega) (by dsimp only; omega) v4).mono ?_
       rintro e w' ⟨rfl, hb⟩
       exact ⟨rfl, hS.trans (hb.mono hS.size)⟩
      have S0 : Below W5.heap.size W5 W5 := Below.refl _ _
      rw [hE] at hlow
      by_cases hlw : x < E
      ·have HF : Hid (¬ FreeOk z.f z.t z.f none z.free) := fun g => by have := (freeOk_at g (by omega) hX.out).2.2.1; rw [hlow] at this; dsimp only at this; omega
       have hlw' : decide (x < E) = true := decide_eq_true hlw
       clear hF htk htj hX hX' hlast hlow hE hR
       go_region_with (first | (go_at_call 91; refine (HBeh.out _ ?_).mono ?_; (first | exact Below.drew S0 | assumption); rintro e w6 ⟨rfl, hS6⟩; have a0 := m0 _ hS6; have a1 := m1 _ hS6; have a2 := m2 _ hS6; have a3 := r0 _ hS6; have a4 := r1 _ hS6; have a5 := r2 _ hS6) | (go_at_call 92; refine (HAre.out _ ?_).mono ?_; (first | assumption | exact Below.drew (by assumption)); rintro e w7 ⟨rfl, hS7⟩))
       all_goals
        have hbb := I5.b.trans (hS6.mono I5.b.size)
        clear I5 HBeh HAre m0 m1 m2 r0 r1 r2 S0
        go_wp2
        go_ret
        exact ⟨⟨false, rfl, fun g => (by cases g), fun g => absurd g HF.out⟩, hbb⟩
      ·have hlw' : decide (x < E) = false := decide_eq_false hlw
       cases R with
       | true =>
        have HF : Hid (¬ FreeOk z.f z.t z.f none z.free) := fun g => (freeOk_at g (by omega) hX.out).2.2.2 _ hlast ((areB_iff (by dsimp only; omega)).1 hR)
        clear hF htk htj hX hX' hlast hlow hE hR
        go_region_with (first | (go_at_call 91; refine (HBeh.out _ ?_).mono ?_; (first | exact Below.drew S0 | assumption); rintro e w6 ⟨rfl, hS6⟩; have a0 := m0 _ hS6; have a1 := m1 _ hS6; have a2 := m2 _ hS6; have a3 := r0 _ hS6; have a4 := r1 _ hS6; have a5 := r2 _ hS6) | (go_at_call 92; refine (HAre.out _ ?_).mono ?_; (first | assumption | exact Below.drew (by assumption)); rintro e w7 ⟨rfl, hS7⟩))
        all_goals
         have hbb := I5.b.trans (hS7.mono I5.b.size)
         clear I5 HBeh HAre m0 m1 m2 r0 r1 r2 S0
         go_wp2
         go_ret
         exact ⟨⟨false, rfl, fun g => (by cases g), fun g => absurd g HF.out⟩, hbb⟩
       | false =>
        have hF' : Hid (FreeOk z.f z.t z.f none (z.free.take (j + 1 + 1))) := by
         show FreeOk _ _ _ _ _
         rw [htk, freeOk_snoc]
         refine ⟨hF.out, hB, hU, by rw [hlow]; dsimp only; omega, fun p hp => ?_⟩
         rw [hlast] at hp
         cases hp
         intro g
         have := (areB_iff (by dsimp only; omega)).2 g
         rw [hR] at this
         cases this
        clear hF htk htj hX hX' hlast hlow hE hR
        go_region_with (first | (go_at_call 91; refine (HBeh.out _ ?_).mono ?_; (first | exact Below.drew S0 | assumption); rintro e w6 ⟨rfl, hS6⟩; have a0 := m0 _ hS6; have a1 := m1 _ hS6; have a2 := m2 _ hS6; have a3 := r0 _ hS6; have a4 := r1 _ hS6; have a5 := r2 _ hS6) | (go_at_call 92; refine (HAre.out _ ?_).mono ?_; (first | assumption | exact Below.drew (by assumption)); rintro e w7 ⟨rfl, hS7⟩))
        all_goals
         have I7 := I5.step hS7
         clear I5 HBeh HAre m0 m1 m2 r0 r1 r2 S0
         go_wp2
         go_roundw
         case rel => exact ⟨(j + 1) + 1, by omega, by go_num, hF', I7⟩
         case measure => simp [intOf]; omega
    ·have e1 : Hid (inB u 0 2 = false) := inB_f hU
     have HF : Hid (¬ FreeOk z.f z.t z.f none z.free) := fun g => hU (freeOk_at g (by omega) hX.out).2.1
     clear hF htk
     go_wp2_with fail
     go_at_call 89
     refine (isType_any _ _).mono ?_
     rintro e w' ⟨rfl, rfl⟩
     rw [e1.out]
     go_wp2
     go_ret
     exact ⟨⟨false, rfl, fun g => (by cases g), fun g => absurd g HF.out⟩, hbb⟩
   ·have hB2 : blkB z.f z.t x y = false := by
     cases hb : blkB z.f z.t x y with
     | false => rfl
     | true => exact absurd ((blkB_iff z.f z.t x y).1 hb) hB
    rw [hB2]
    have HF : Hid (¬ FreeOk z.f z.t z.f none z.free) := fun g => hB (freeOk_at g (by omega) hX.out).1
    clear hF htk
    go_wp2
    go_ret
    exact ⟨⟨false, rfl, fun g => (by cases g), fun g => absurd g HF.out⟩, hbb⟩
  ·have HM : Hid (FreeOk z.f z.t z.f none z.free) := by have := hF.out; rw [List.take_of_length_le (by omega)] at this; exact this
   have hbb := I.b
   clear hF
   go_wp2
   go_ret
   exact ⟨⟨true, rfl, fun _ => HM.out, fun _ => rfl⟩, hbb⟩
theorem zMay_iff (z : Zn) : ZMay z ↔ newOk z.f z.t ∧ TypesP z ∧ FreeOk z.f z.t z.f none z.free :=
 ⟨fun h => ⟨h.new, ⟨h.len, h.ty⟩, h.free⟩, fun ⟨h1, h2, h3⟩ => ⟨h1, h2.1, h2.2, h3⟩⟩
theorem zCheck_any (w : World) (fo : Option Addr) (fn fc : Nat) (to_ : Option Addr) (tn tc : Nat) (z : Zn) (h : ZnAt w fo fn to_ tn z) :
    Calls Try.prog 53 #[.agg #[.int .i64 z.f, .int .i64 z.t, .slice fo fn fc, .slice to_ tn tc]] w fun e w' => (∃ c, e = .returned (.int .i64 c) ∧ (c = 0 ∧ ZMay z ∨ c = 8 ∧ ¬ ZMay z)) ∧ Below w.heap.size w w' := by
 have I0 := ckInv_first w fo fn fc to_ tn tc z h
 have c0 := I0.box.c0
 have c1 := I0.box.c1
 have c2 := I0.box.c2
 have c3 := I0.box.c3
 clear h
 by_cases hn : newOk z.f z.t
 ·have HB : Hid (newB z.f z.t = true) := newB_t hn
  go_enter Try.func53, Try.ntmps53
  go_wp2_with fail
  go_at_call 71
  refine (bounds_any _ _ _).mono ?_
  rintro e w' ⟨rfl, rfl⟩
  rw [HB.out]
  go_wp2_with fail
  go_at_call 72
  refine (typesMay_any _ fo fn fc to_ tn tc z I0.zn hn).mono ?_
  rintro e w1 ⟨⟨r, rfl, hr⟩, hb1⟩
  have I1 := I0.step hb1
  clear I0 c0 c1 c2 c3 hb1
  have c0 := I1.box.c0
  have c1 := I1.box.c1
  have c2 := I1.box.c2
  have c3 := I1.box.c3
  cases r with
  | false =>
   have HF : Hid (¬ ZMay z) := fun g => by have := hr.2 ((zMay_iff z).1 g).2.1; cases this
   have hbb := I1.b
   clear hr I1 c0 c1 c2 c3
   go_wp2
   go_ret
   exact ⟨⟨8, rfl, .inr ⟨rfl, HF.out⟩⟩, hbb⟩
  | true =>
   have HT : Hid (TypesP z) := hr.1 rfl
   clear hr
   go_wp2_with fail
   go_at_call 73
   refine (freeMay_any _ fo fn fc to_ tn tc z I1.zn hn).mono ?_
   rintro e w2 ⟨⟨r, rfl, hr⟩, hb2⟩
   have hbb := (I1.step hb2).b
   clear I1 c0 c1 c2 c3 hb2
   cases r with
   | false =>
    have HF : Hid (¬ ZMay z) := fun g => by have := hr.2 ((zMay_iff z).1 g).2.2; cases this
    clear hr
    go_wp2
    go_ret
    exact ⟨⟨8, rfl, .inr ⟨rfl, HF.out⟩⟩, hbb⟩
   | true =>
    have HM : Hid (ZMay z) := (zMay_iff z).2 ⟨hn, HT.out, hr.1 rfl⟩
    clear hr
    go_wp2
    go_ret
    exact ⟨⟨0, rfl, .inl ⟨rfl, HM.out⟩⟩, hbb⟩
 ·have HB : Hid (newB z.f z.t = false) := newB_f hn
  have HF : Hid (¬ ZMay z) := fun g => hn g.new
  have hbb := I0.b
  clear hn
  go_enter Try.func53, Try.ntmps53
  go_wp2_with fail
  go_at_call 71
  refine (bounds_any _ _ _).mono ?_
  rintro e w' ⟨rfl, rfl⟩
  rw [HB.out]
  clear I0 c0 c1 c2 c3
  go_wp2
  go_ret
  exact ⟨⟨8, rfl, .inr ⟨rfl, HF.out⟩⟩, hbb⟩
theorem zCheck_ok (w : World) (fo : Option Addr) (fn fc : Nat) (to_ : Option Addr) (tn tc : Nat) (z : Zn) (h : ZnAt w fo fn to_ tn z) (hM : ZMay z) :
    Calls Try.prog 53 #[.agg #[.int .i64 z.f, .int .i64 z.t, .slice fo fn fc, .slice to_ tn tc]] w fun e w' => e = .returned (.int .i64 0) ∧ Below w.heap.size w w' := by
 refine (zCheck_any w fo fn fc to_ tn tc z h).mono ?_
 rintro e w1 ⟨⟨c, rfl, hc⟩, hb⟩
 rcases hc with ⟨rfl, _⟩ | ⟨_, g⟩
 ·exact ⟨rfl, hb⟩
 ·exact absurd hM g
theorem zCheck_no (w : World) (fo : Option Addr) (fn fc : Nat) (to_ : Option Addr) (tn tc : Nat) (z : Zn) (h : ZnAt w fo fn to_ tn z) (_hf : ZFits z) (hM : ¬ ZMay z) :
    Calls Try.prog 53 #[.agg #[.int .i64 z.f, .int .i64 z.t, .slice fo fn fc, .slice to_ tn tc]] w fun e w' => e = .returned (.int .i64 8) ∧ Below w.heap.size w w' := by
 refine (zCheck_any w fo fn fc to_ tn tc z h).mono ?_
 rintro e w1 ⟨⟨c, rfl, hc⟩, hb⟩
 rcases hc with ⟨_, g⟩ | ⟨rfl, _⟩
 ·exact absurd g hM
 ·exact ⟨rfl, hb⟩
theorem zoneOf_hp (x : Hx) (i : Nat) : x.hp.zones.getD i ⟨0, 0, [], []⟩ = (x.zs.getD i .zero).z := by
 show (x.zs.map (·.z)).getD i _ = _
 rw [List.getD_eq_getElem?_getD, List.getD_eq_getElem?_getD, List.getElem?_map]
 cases x.zs[i]? <;> rfl
theorem listOf_hp (x : Hx) (i : Nat) : x.hp.lists.getD i .zero = (x.ls.getD i .zero).l := by
 show (x.ls.map (·.l)).getD i _ = _
 rw [List.getD_eq_getElem?_getD, List.getD_eq_getElem?_getD, List.getElem?_map]
 cases x.ls[i]? <;> rfl
theorem pZonesMay_any (w : World) (x : Hx) (hx : x.At w) :
    Calls Try.prog 26 #[.slice x.zo x.zn x.zc] w fun e w' => RetIff e (ZsOk x.hp) ∧ Below w.heap.size w w' := by
 have hlen : x.hp.zones.length = x.zn := by show (x.zs.map _).length = _; rw [List.length_map]; exact hx.zones.len
 have HNo : Hid (∀ e, (e = Ending.returned (.bool false)) → ¬ ZsOk x.hp → RetIff e (ZsOk x.hp)) := fun e he hn => ⟨false, he, by simp [hn]⟩
 have hZ := hx.zones
 obtain ⟨zo, hzo⟩ : ∃ zo, x.zo = zo := ⟨_, rfl⟩
 rw [hzo] at hZ ⊢
 clear hzo
 have rz := hZ.reach
 obtain ⟨zn, hzn⟩ : ∃ zn, x.zn = zn := ⟨_, rfl⟩
 rw [hzn] at hZ rz hlen ⊢
 clear hzn
 by_cases h2 : zn = 2
 ·subst h2
  obtain ⟨g, off, z, fo, fn, fc, to_, tn, tc, ha, c0, c1, c2, c3, hat, hX⟩ := hZ.at 0 (by omega)
  obtain ⟨g', off', z', fo', fn', fc', to', tn', tc', ha', d0, d1, d2, d3, hat', hX'⟩ := hZ.at 1 (by omega)
  subst ha
  simp only [Option.some.injEq, Addr.mk.injEq, and_true] at ha'
  obtain ⟨rfl, rfl⟩ := ha'
  have e0 : x.hp.zones.getD 0 ⟨0, 0, [], []⟩ = z := by rw [zoneOf_hp, hX.out]
  have e1 : x.hp.zones.getD 1 ⟨0, 0, [], []⟩ = z' := by rw [zoneOf_hp, hX'.out]
  have HZ : Hid (ZsOk x.hp ↔ ZMay z ∧ ZMay z' ∧ z.f = 0 ∧ z'.f = z.t ∧ z'.t = 256) := by
   show _ ↔ _
   constructor
   ·rintro ⟨_, b, c, d, e, f⟩
    rw [e0] at b d e
    rw [e1] at c e f
    exact ⟨b, c, d, e, f⟩
   ·rintro ⟨b, c, d, e, f⟩
    exact ⟨hlen, by rw [e0]; exact b, by rw [e1]; exact c, by rw [e0]; exact d, by rw [e0, e1]; exact e, by rw [e1]; exact f⟩
  have HC0 := zCheck_any w fo fn fc to_ tn tc z hat
  have HC1 := fun W (hb : Below w.heap.size w W) => zCheck_any W fo' fn' fc' to' tn' tc' z' (hat'.below hb)
  have HC1' : Hid _ := HC1
  have cc0 : w.cell? ⟨g, off + 0 * 4, none⟩ = some (.int .i64 z.f) := c0
  simp only [Nat.zero_mul, Nat.add_zero, Nat.one_mul] at c0 c1 c2 c3 d0 d1 d2 d3
  clear HC1 e0 e1 hX hX' hlen hat hat' cc0
  go_enter Try.func26, Try.ntmps26
  go_wp2_with fail
  go_at_call 53
  refine HC0.mono ?_
  rintro e W1 ⟨⟨c, rfl, hc⟩, hb1⟩
  rcases hc with ⟨rfl, hM⟩ | ⟨rfl, hM⟩
  ·replace d0 := keep d0 hb1
   replace d1 := keep d1 hb1
   replace d2 := keep d2 hb1
   replace d3 := keep d3 hb1
   replace c0 := keep c0 hb1
   replace c1 := keep c1 hb1
   have HC := HC1'.out W1 hb1
   clear HC0 HC1'
   go_wp2_with fail
   go_at_call 53
   refine HC.mono ?_
   rintro e W2 ⟨⟨c, rfl, hc⟩, hb2⟩
   have hB2 := hb1.trans (hb2.mono hb1.size)
   rcases hc with ⟨rfl, hM'⟩ | ⟨rfl, hM'⟩
   ·replace c0 := keep c0 hb2
    replace c1 := keep c1 hb2
    replace d0 := keep d0 hb2
    replace d1 := keep d1 hb2
    have HZ2 : Hid (ZsOk x.hp ↔ z.f = 0 ∧ z'.f = z.t ∧ z'.t = 256) := by show _ ↔ _; rw [HZ.out]; exact ⟨fun h => h.2.2, fun h => ⟨hM, hM', h⟩⟩
    obtain ⟨F, hF⟩ : ∃ F, z.f = F := ⟨_, rfl⟩
    obtain ⟨T, hT⟩ : ∃ F, z.t = F := ⟨_, rfl⟩
    obtain ⟨F', hF'⟩ : ∃ F, z'.f = F := ⟨_, rfl⟩
    obtain ⟨T', hT'⟩ : ∃ F, z'.t = F := ⟨_, rfl⟩
    rw [hF, hT, hF', hT'] at HZ2
    rw [hF] at c0
    rw [hT] at c1
    rw [hF'] at d0
    rw [hT'] at d1
    clear HC d2 d3 c2 c3 hM hM' HZ
    clear hF hT hF' hT'
    go_wp2_with fail
    have fin : ∀ (r : Bool) (W : World), ((r = true) ↔ (F = 0 ∧ F' = T ∧ T' = 256)) → Below w.heap.size w W → RetIff (.returned (.bool r)) (ZsOk x.hp) ∧ Below w.heap.size w W := fun r W h hB => ⟨⟨r, rfl, by rw [HZ2.out]; exact h⟩, hB⟩
    have fin' : Hid _ := fin
    clear fin
    by_cases q1 : F = 0
    ·have p1 : (F == 0) = true := by simp [q1]
     by_cases q2 : F' = T
     ·have p2 : (F' == T) = true := by simp [q2]
      have H2 : Hid (F = 0 ∧ F' = T) := ⟨q1, q2⟩
      by_cases q3 : T' = 256
      ·have p3 : (T' == 256) = true := by simp [q3]
       have H3 : Hid (T' = 256) := q3
       clear q1 q2 q3
       go_quiet (fail)
       go_wp2
       go_ret
       exact fin'.out _ _ ⟨fun _ => ⟨H2.out.1, H2.out.2, H3.out⟩, fun _ => by simp⟩ (hB2.trans ((below_drawn _).mono hB2.size))
      ·have p3 : (T' == 256) = false := by simpa using q3
       have H3 : Hid (¬ T' = 256) := q3
       clear q1 q2 q3
       go_quiet (fail)
       go_wp2
       go_ret
       exact fin'.out _ _ ⟨fun h => by simp at h, fun h => absurd h.2.2 H3.out⟩ (hB2.trans ((below_drawn _).mono hB2.size))
     ·have p2 : (F' == T) = false := by simpa using q2
      have H3 : Hid (¬ F' = T) := q2
      clear q1 q2
      go_quiet (fail)
      go_wp2
      go_ret
      exact fin'.out _ _ ⟨fun h => by simp at h, fun h => absurd h.2.1 H3.out⟩ (hB2.trans ((below_drawn _).mono hB2.size))
    ·have p1 : (F == 0) = false := by simpa using q1
     have H3 : Hid (¬ F = 0) := q1
     clear q1
     go_quiet (fail)
     go_wp2
     go_ret
     exact fin'.out _ _ ⟨fun h => by simp at h, fun h => absurd h.1 H3.out⟩ (hB2.trans ((below_drawn _).mono hB2.size))
   ·have hn : Hid (¬ ZsOk x.hp) := fun h => hM' (HZ.out.1 h).2.1
    clear HC HZ d0 d1 d2 d3 c0 c1 c2 c3
    go_wp2
    go_ret
    exact ⟨HNo.out _ rfl hn.out, hB2⟩
  ·have hn : Hid (¬ ZsOk x.hp) := fun h => hM (HZ.out.1 h).1
   clear HC0 HC1' HZ d0 d1 d2 d3 c0 c1 c2 c3
   go_wp2
   go_ret
   exact ⟨HNo.out _ rfl hn.out, hb1⟩
 ·have hn : Hid (¬ ZsOk x.hp) := fun h => h2 (by have := h.n; omega)
  obtain ⟨N, hN⟩ : ∃ N : Int, (zn : Int) = N := ⟨_, rfl⟩
  have q2 : (N == 2) = false := by simp; omega
  go_enter Try.func26, Try.ntmps26
  go_wp2
  go_ret
  exact ⟨HNo.out _ rfl hn.out, Below.refl _ _⟩
theorem pMinsMay_any (w : World) (x : Hx) (hx : x.At w) :
    Calls Try.prog 27 #[.slice x.mo x.mn x.mc] w fun e w' => RetIff e (MnOk x.hp) ∧ Below w.heap.size w w' := by
 have hM := hx.mins
 have HNo : Hid (∀ e, (e = Ending.returned (.bool false)) → ¬ MnOk x.hp → RetIff e (MnOk x.hp)) := fun e he hn => ⟨false, he, by simp [hn]⟩
 have hlen : x.hp.mins.length = x.mn := hM.len
 obtain ⟨mo, hmo⟩ : ∃ zo, x.mo = zo := ⟨_, rfl⟩
 rw [hmo] at hM ⊢
 clear hmo
 have rz := hM.reach
 obtain ⟨mn, hmn⟩ : ∃ zn, x.mn = zn := ⟨_, rfl⟩
 rw [hmn] at hM rz hlen ⊢
 clear hmn
 by_cases h2 : mn = 2
 ·subst h2
  obtain ⟨g, off, a, ha, c0, hA⟩ := hM.at_.at 0 (by have := hM.len; omega)
  obtain ⟨g', off', b, ha', d0, hB⟩ := hM.at_.at 1 (by have := hM.len; omega)
  subst ha
  simp only [Option.some.injEq, Addr.mk.injEq, and_true] at ha'
  obtain ⟨rfl, rfl⟩ := ha'
  have HZ : Hid (MnOk x.hp ↔ (0 ≤ a ∧ a ≤ 256) ∧ (0 ≤ b ∧ b ≤ 256)) := by
   show _ ↔ _
   have e0 : x.hp.mins.getD 0 0 = a := hA.out
   have e1 : x.hp.mins.getD 1 0 = b := hB.out
   constructor
   ·rintro ⟨_, p, q⟩
    rw [e0] at p
    rw [e1] at q
    exact ⟨p, q⟩
   ·rintro ⟨p, q⟩
    exact ⟨hlen, by rw [e0]; exact p, by rw [e1]; exact q⟩
  have H0 := pIsMin_any w a
  have H1 := pIsMin_any w b
  simp only [Nat.add_zero] at c0
  clear hA hB hM hlen
  go_enter Try.func27, Try.ntmps27
  go_wp2_with fail
  go_at_call 54
  refine H0.mono ?_
  rintro e W1 ⟨rfl, rfl⟩
  by_cases q1 : 0 ≤ a ∧ a ≤ 256
  ·rw [inB_t q1]
   go_wp2_with fail
   go_at_call 54
   refine H1.mono ?_
   rintro e W1 ⟨rfl, rfl⟩
   by_cases q2 : 0 ≤ b ∧ b ≤ 256
   ·rw [inB_t q2]
    have hy : Hid (MnOk x.hp) := HZ.out.2 ⟨q1, q2⟩
    clear HZ H0 H1
    go_wp2
    go_ret
    exact ⟨⟨true, rfl, fun _ => hy.out, fun _ => rfl⟩, Below.refl _ _⟩
   ·rw [inB_f q2]
    have hn : Hid (¬ MnOk x.hp) := fun h => q2 (HZ.out.1 h).2
    clear HZ H0 H1
    go_wp2
    go_ret
    exact ⟨HNo.out _ rfl hn.out, Below.refl _ _⟩
  ·rw [inB_f q1]
   have hn : Hid (¬ MnOk x.hp) := fun h => q1 (HZ.out.1 h).1
   clear HZ H0 H1
   go_wp2
   go_ret
   exact ⟨HNo.out _ rfl hn.out, Below.refl _ _⟩
 ·have hn : Hid (¬ MnOk x.hp) := fun h => h2 (by have := h.n; omega)
  have q2 : ((mn : Int) == 2) = false := by simp; omega
  clear h2
  go_enter Try.func27, Try.ntmps27
  go_wp2
  go_ret
  exact ⟨HNo.out _ rfl hn.out, Below.refl _ _⟩
theorem lss_to {x : Hx} (hw : ∃ w, x.At w) (hz : ZsOk x.hp) (h : LssOk x.hp) : LssOkX x := by
 obtain ⟨w, hx⟩ := hw
 have e1 : x.hp.lists.length = x.ln := by show (x.ls.map _).length = _; rw [List.length_map]; exact hx.lists.len
 have e2 : x.zn = 2 := by have := hz.n; have e : x.hp.zones.length = x.zn := by show (x.zs.map _).length = _; rw [List.length_map]; exact hx.zones.len
                          omega
 refine ⟨fun i hi => ?_, fun i h0 hi => ?_⟩
 ·have := h.ok i (by omega)
  rw [listOf_hp] at this
  have hc := this.c
  have hp := this.p
  rw [zoneOf_hp] at hp
  exact ⟨⟨hc.1, by have : x.hp.cpus = x.cpus := rfl; omega⟩, by have := this.z; omega, this.t, this.n, hp⟩
 ·have := h.ord i h0 (by omega)
  rw [listOf_hp, listOf_hp] at this
  exact this
theorem lss_of {x : Hx} (hw : ∃ w, x.At w) (hz : ZsOk x.hp) (h : LssOkX x) : LssOk x.hp := by
 obtain ⟨w, hx⟩ := hw
 have e1 : x.hp.lists.length = x.ln := by show (x.ls.map _).length = _; rw [List.length_map]; exact hx.lists.len
 have e2 : x.zn = 2 := by have := hz.n; have e : x.hp.zones.length = x.zn := by show (x.zs.map _).length = _; rw [List.length_map]; exact hx.zones.len
                          omega
 refine ⟨fun i hi => ?_, fun i h0 hi => ?_⟩
 ·have := h.ok i (by omega)
  rw [listOf_hp]
  have hc := this.c
  have hp := this.p
  exact ⟨⟨hc.1, by have : x.hp.cpus = x.cpus := rfl; omega⟩, by have := this.z; omega, this.t, this.n, by rw [zoneOf_hp]; exact hp⟩
 ·have := h.ord i h0 (by omega)
  rw [listOf_hp, listOf_hp]
  exact this
theorem free_inP {z : Zn} (h : ZMay z) (i : Nat) (hi : i < z.free.length) : InP (z.free.getD i .zero) := by
 have hb := (freeOk_at h.free hi rfl).1
 obtain ⟨n1, n2, n3, n4, n5⟩ := h.new
 obtain ⟨o, b1, b2, b3⟩ := hb
 refine ⟨o, by omega, ?_⟩
 rcases ord_cases o with ⟨e, q⟩ | ⟨e, q⟩ | ⟨e, q⟩ | ⟨e, q⟩ | ⟨e, q⟩ <;> rw [q] at b3 ⊢ <;> omega
theorem two_zones {x : Hx} (hz : ZsOk x.hp) : ∀ z ∈ x.zs, z = x.zs.getD 0 .zero ∨ z = x.zs.getD 1 .zero := by
 intro z hm
 have hn : x.zs.length = 2 := by have := hz.n; have e : x.hp.zones.length = x.zs.length := by show (x.zs.map _).length = _; rw [List.length_map]
                                 omega
 obtain ⟨i, hi, rfl⟩ := List.getElem_of_mem hm
 rcases (show i = 0 ∨ i = 1 by omega) with rfl | rfl
 ·left; rw [List.getD_eq_getElem?_getD, List.getElem?_eq_getElem hi]; rfl
 ·right; rw [List.getD_eq_getElem?_getD, List.getElem?_eq_getElem hi]; rfl
theorem free_in {x : Hx} (hz : ZsOk x.hp) : ∀ z ∈ x.zs, ∀ i, i < z.z.free.length → InP (z.z.free.getD i .zero) := by
 intro z hm i hi
 have h0 := hz.m0
 have h1 := hz.m1
 rw [zoneOf_hp] at h0 h1
 rcases two_zones hz z hm with rfl | rfl
 ·exact free_inP h0 i hi
 ·exact free_inP h1 i hi
theorem page_inL {x : Hx} (hz : ZsOk x.hp) (hl : LssOk x.hp) : ∀ l ∈ x.ls, ∀ i, i < l.l.pages.length → 0 ≤ l.l.pages.getD i 0 ∧ l.l.pages.getD i 0 < 256 := by
 intro l hm i hi
 obtain ⟨k, hk, rfl⟩ := List.getElem_of_mem hm
 have h := hl.ok k (by show k < (x.ls.map _).length; rw [List.length_map]; exact hk)
 rw [listOf_hp] at h
 have e : x.ls.getD k .zero = x.ls[k] := by rw [List.getD_eq_getElem?_getD, List.getElem?_eq_getElem hk]; rfl
 rw [e] at h
 have hp := h.p i hi
 have hzz := h.z
 have h0 := hz.m0.new
 have h1 := hz.m1.new
 have f0 := hz.f0
 have f1 := hz.f1
 have t1 := hz.t1
 obtain ⟨a1, a2, a3, _, _⟩ := h0
 obtain ⟨b1, b2, b3, _, _⟩ := h1
 rcases (show x.ls[k].l.z.toNat = 0 ∨ x.ls[k].l.z.toNat = 1 by omega) with q | q
 ·rw [q] at hp; omega
 ·rw [q] at hp; omega
theorem live_in {l : List Bk} (h : LvsOk l) : ∀ i, i < l.length → InP (l.getD i .zero) := fun i hi => (h.ok i hi).inP
theorem pCheck_any (w : World) (x : Hx) (hx : x.At w) :
    Calls Try.prog 12 #[.agg #[.slice x.zo x.zn x.zc, .slice x.mo x.mn x.mc, .int .i64 x.cpus, .slice x.lo x.ln x.lc, .slice x.vo x.vn x.vc]] w fun e w' => (∃ c, e = .returned (.int .i64 c) ∧ (c = 0 ∧ HMay x.hp ∨ c = 8 ∧ ¬ HMay x.hp)) ∧ Below w.heap.size w w' := by
 have hex : ∃ w, x.At w := ⟨w, hx⟩
 have hb1 := below_box w (.cells #[.slice x.zo x.zn x.zc, .slice x.mo x.mn x.mc, .int .i64 x.cpus, .slice x.lo x.ln x.lc, .slice x.vo x.vn x.vc] 27)
 have A1 := hbox_new w (.slice x.zo x.zn x.zc) (.slice x.mo x.mn x.mc) (.int .i64 x.cpus) (.slice x.lo x.ln x.lc) (.slice x.vo x.vn x.vc) 27
 obtain ⟨W0, hW0⟩ : ∃ W0, w.alloc (.cells #[.slice x.zo x.zn x.zc, .slice x.mo x.mn x.mc, .int .i64 x.cpus, .slice x.lo x.ln x.lc, .slice x.vo x.vn x.vc] 27) = W0 := ⟨_, rfl⟩
 rw [hW0] at A1 hb1
 have HW0 : Hid _ := hW0
 clear hW0
 replace hx := hx.below hb1
 have HNo : Hid (∀ e, (e = Ending.returned (.int .i64 8)) → ¬ HMay x.hp → (∃ c, e = .returned (.int .i64 c) ∧ (c = 0 ∧ HMay x.hp ∨ c = 8 ∧ ¬ HMay x.hp))) := fun e he hn => ⟨8, he, .inr ⟨rfl, hn⟩⟩
 have HX0 := pZonesMay_any W0 x hx
 have c0 := A1.c0
 go_enter Try.func12, Try.ntmps12
 go_wp2_with (rw [HW0.out])
 clear HW0
 go_at_call 26
 refine HX0.mono ?_
 rintro e W1 ⟨⟨r, rfl, hr⟩, hb⟩
 have hB : Below w.heap.size w W1 := hb1.trans (hb.mono hb1.size)
 replace A1 := A1.below hb
 replace hx := hx.below hb
 clear hb HX0 hb1 c0
 have HR : Hid _ := hr
 clear hr
 cases r with
 | false =>
  have hn : Hid (¬ HMay x.hp) := fun h => absurd (HR.out.2 h.zs) (by simp)
  clear HR A1
  go_wp2
  go_ret
  exact ⟨HNo.out _ rfl hn.out, hB⟩
 | true =>
 have Hz : Hid (ZsOk x.hp) := HR.out.1 rfl
 clear HR
 have HX1 := pMinsMay_any W1 x hx
 have c1 := A1.c1
 go_wp2_with fail
 go_at_call 27
 refine HX1.mono ?_
 rintro e W2 ⟨⟨r, rfl, hr⟩, hb⟩
 replace hB := hB.trans (hb.mono hB.size)
 replace A1 := A1.below hb
 replace hx := hx.below hb
 clear hb HX1 c1
 have HR : Hid _ := hr
 clear hr
 cases r with
 | false =>
  have hn : Hid (¬ HMay x.hp) := fun h => absurd (HR.out.2 h.mn) (by simp)
  clear HR A1
  go_wp2
  go_ret
  exact ⟨HNo.out _ rfl hn.out, hB⟩
 | true =>
 have Hm : Hid (MnOk x.hp) := HR.out.1 rfl
 clear HR
 have HX2 := pAreCpus_any W2 x.cpus
 have c2 := A1.c2
 go_wp2_with fail
 go_at_call 28
 refine HX2.mono ?_
 rintro e W2' ⟨rfl, rfl⟩
 clear HX2 c2
 by_cases hc : 1 ≤ x.cpus ∧ x.cpus ≤ 4
 rotate_left
 ·rw [inB_f hc]
  have hn : Hid (¬ HMay x.hp) := fun h => hc h.cpus
  clear A1
  go_wp2
  go_ret
  exact ⟨HNo.out _ rfl hn.out, hB⟩
 rw [inB_t hc]
 have HX3 := pListsMay_any W2 x hx
 have c0 := A1.c0
 have c1 := A1.c1
 have c2 := A1.c2
 have c3 := A1.c3
 have c4 := A1.c4
 go_wp2_with fail
 go_at_call 29
 refine HX3.mono ?_
 rintro e W3 ⟨⟨r, rfl, hr⟩, hb⟩
 replace hB := hB.trans (hb.mono hB.size)
 replace A1 := A1.below hb
 replace hx := hx.below hb
 clear hb HX3 c0 c1 c2 c3 c4
 have HR : Hid _ := hr
 clear hr
 cases r with
 | false =>
  have hn : Hid (¬ HMay x.hp) := fun h => absurd (HR.out.2 (lss_to hex h.zs h.ls)) (by simp)
  clear HR A1
  go_wp2
  go_ret
  exact ⟨HNo.out _ rfl hn.out, hB⟩
 | true =>
 have Hl : Hid (LssOk x.hp) := lss_of hex Hz.out (HR.out.1 rfl)
 clear HR
 have HX4 := pLiveMay_any W3 x.vo x.vn x.vc x.live hx.live
 have c4 := A1.c4
 go_wp2_with fail
 go_at_call 30
 refine HX4.mono ?_
 rintro e W4 ⟨⟨r, rfl, hr⟩, hb⟩
 replace hB := hB.trans (hb.mono hB.size)
 replace A1 := A1.below hb
 replace hx := hx.below hb
 clear hb HX4 c4
 have HR : Hid _ := hr
 clear hr
 cases r with
 | false =>
  have hn : Hid (¬ HMay x.hp) := fun h => absurd (HR.out.2 h.lv) (by simp)
  clear HR A1
  go_wp2
  go_ret
  exact ⟨HNo.out _ rfl hn.out, hB⟩
 | true =>
 have Hv : Hid (LvsOk x.live) := HR.out.1 rfl
 clear HR
 have HX5 := pApart_any W4 x hx (free_in Hz.out) (page_inL Hz.out Hl.out) (live_in Hv.out)
 have c0 := A1.c0
 have c1 := A1.c1
 have c2 := A1.c2
 have c3 := A1.c3
 have c4 := A1.c4
 go_wp2_with fail
 go_at_call 31
 refine HX5.mono ?_
 rintro e W5 ⟨⟨r, rfl, hr⟩, hb⟩
 replace hB := hB.trans (hb.mono hB.size)
 clear hb HX5 c0 c1 c2 c3 c4 A1
 have HR : Hid _ := hr
 clear hr
 cases r with
 | false =>
  have hn : Hid (¬ HMay x.hp) := fun h => absurd (HR.out.2 h.apart) (by simp)
  clear HR
  go_wp2
  go_ret
  exact ⟨HNo.out _ rfl hn.out, hB⟩
 | true =>
  have hy : Hid (HMay x.hp) := ⟨Hz.out, Hm.out, hc, Hl.out, Hv.out, HR.out.1 rfl⟩
  clear HR
  go_wp2
  go_ret
  exact ⟨⟨0, rfl, .inl ⟨rfl, hy.out⟩⟩, hB⟩
end Go.Proofs.Ytnijjpakpphhhaa
namespace Go.Proofs.Ytnijjpakpphhhaa.Kit
open Go Go.RowKit
def preL {α : Type} (F : α → List Bk) (d : α) (l : List α) (i k : Nat) : List Bk := (l.take i).flatMap F ++ (F (l.getD i d)).take k
theorem preL_zero {α : Type} (F : α → List Bk) (d : α) (l : List α) (i : Nat) : preL F d l i 0 = (l.take i).flatMap F := by simp [preL]
theorem preL_full {α : Type} (F : α → List Bk) (d : α) (l : List α) (i k : Nat) (hi : i < l.length) (hk : (F (l.getD i d)).length ≤ k) : preL F d l i k = preL F d l (i + 1) 0 := by
 rw [preL_zero]
 unfold preL
 rw [List.take_of_length_le hk, List.take_succ_eq_append_getElem hi, List.flatMap_append, List.getD_eq_getElem?_getD, List.getElem?_eq_getElem hi]
 simp
theorem preL_succ {α : Type} (F : α → List Bk) (d : α) (l : List α) (i k : Nat) (hk : k < (F (l.getD i d)).length) : preL F d l i (k + 1) = preL F d l i k ++ [(F (l.getD i d)).getD k .zero] := by
 unfold preL
 rw [take_getD _ k hk rfl, List.append_assoc]
theorem preL_rest {α : Type} (F : α → List Bk) (d : α) (l : List α) (i k : Nat) (hi : i < l.length) : ∃ r, l.flatMap F = preL F d l i k ++ r := by
 unfold preL
 have h1 : l = l.take i ++ l.drop i := (List.take_append_drop i l).symm
 have h2 : l.drop i = l.getD i d :: l.drop (i + 1) := by rw [List.drop_eq_getElem_cons hi, List.getD_eq_getElem?_getD, List.getElem?_eq_getElem hi]; rfl
 refine ⟨(F (l.getD i d)).drop k ++ (l.drop (i + 1)).flatMap F, ?_⟩
 conv => lhs; rw [h1]
 rw [List.flatMap_append, h2, List.flatMap_cons, List.append_assoc, ← List.append_assoc ((F (l.getD i d)).take k), List.take_append_drop]
theorem preL_all {α : Type} (F : α → List Bk) (d : α) (l : List α) (i : Nat) (h : l.length ≤ i) : preL F d l i 0 = l.flatMap F := by
 rw [preL_zero, List.take_of_length_le h]
theorem not_apt {P r : List Bk} {b : Bk} (h : ovlP P b.a b.o) : ¬ Apt [] (P ++ [b] ++ r) := by
 intro g
 rw [apt_append, apt_append, apt_one] at g
 exact g.1.2 (by simpa using h)
theorem apt_snoc {P : List Bk} {b : Bk} (h : Apt [] P) (hn : ¬ ovlP P b.a b.o) : Apt [] (P ++ [b]) := by
 rw [apt_append, apt_one]
 exact ⟨h, by simpa using hn⟩
theorem nodup_len : ∀ (n : Nat) (l : List Int), l.Nodup → (∀ x ∈ l, 0 ≤ x ∧ x < n) → l.length ≤ n
 | 0, [], _, _ => Nat.le_refl _
 | 0, x :: l, _, h => by have := h x List.mem_cons_self; omega
 | n + 1, l, hd, h => by
  by_cases hm : (n : Int) ∈ l
  ·have h1 := nodup_len n (l.erase n) (hd.erase _) (fun x hx => by
    have h2 := (hd.mem_erase_iff).1 hx
    have h3 := h x h2.2
    have h4 : x ≠ n := h2.1
    omega)
   have h5 := List.length_erase_of_mem hm
   have := List.length_pos_of_mem hm
   omega
  ·have := nodup_len n l hd (fun x hx => by
    have h3 := h x hx
    have : x ≠ n := fun e => hm (e ▸ hx)
    omega)
   omega
theorem apt_len {P : List Bk} (h : Apt [] P) (hi : ∀ i, i < P.length → InP (P.getD i .zero)) : P.length ≤ 256 := by
 have hn : (P.map (·.a)).Nodup := by
  rw [List.nodup_iff_pairwise_ne, List.pairwise_iff_getElem]
  intro i j hi' hj' hij
  simp only [List.length_map] at hi' hj'
  simp only [List.getElem_map]
  intro e
  refine h j hj' ⟨i, by simp; omega, ?_⟩
  have e1 : (([] : List Bk) ++ P.take j).getD i .zero = P[i] := by
   rw [List.nil_append, List.getD_eq_getElem?_getD, List.getElem?_take_of_lt hij, List.getElem?_eq_getElem hi']; rfl
  have e2 : P.getD j .zero = P[j] := by rw [List.getD_eq_getElem?_getD, List.getElem?_eq_getElem hj']; rfl
  rw [e1, e2]
  have p1 := pw_pos P[i].o
  have p2 := pw_pos P[j].o
  constructor <;> omega
 have := nodup_len 256 _ hn (fun x hx => by
  obtain ⟨b, hb, rfl⟩ := List.mem_map.1 hx
  obtain ⟨i, hi', rfl⟩ := List.getElem_of_mem hb
  have := hi i hi'
  rw [List.getD_eq_getElem?_getD, List.getElem?_eq_getElem hi'] at this
  obtain ⟨_, h2, h3⟩ := this
  have := pw_pos P[i].o
  simp only [Option.getD_some] at h2 h3
  omega)
 simpa using this
theorem inP_snoc {P : List Bk} {b : Bk} (h : ∀ i, i < P.length → InP (P.getD i .zero)) (hb : InP b) : ∀ i, i < (P ++ [b]).length → InP ((P ++ [b]).getD i .zero) := by
 intro i hi
 by_cases hl : i < P.length
 ·rw [getD_append_left _ _ _ _ hl]; exact h i hl
 ·obtain rfl : i = P.length + 0 := by simp at hi; omega
  rw [getD_append_right]
  exact hb
theorem Bu2.grow {g z : Nat} {w w' w'' : World} (h : Bu2 g z w w') (hb : Below w'.heap.size w' w'') : Bu2 g z w w'' := h.trans (Bu2.of_below hb)
theorem Bu2.start (g z : Nat) {w w' : World} (h : ({ w with drawn := w.drawn + 1 } : World) = w') : Bu2 g z w w' := by
 subst h
 exact Bu2.of_below ((Below.refl w.heap.size w).drew)
theorem drawn_b {w w' : World} (h : ({ w with drawn := w.drawn + 1 } : World) = w') : Below w.heap.size w w' := by
 subst h
 exact (Below.refl w.heap.size w).drew
theorem Bu2.row {g z b : Nat} {w w' : World} {o : Obj} (h : Bu2 g z w w') (hr : w.heap[b]? = some o) (h1 : b ≠ g) (h2 : b ≠ z) : w'.heap[b]? = some o := by
 rw [h.block b (Array.getElem?_eq_some_iff.1 hr).1 h1 h2]; exact hr
end Go.Proofs.Ytnijjpakpphhhaa.Kit
namespace Go.Proofs.Ytnijjpakpphhhaa
open Go Go.RowKit Go.Proofs.Ytnijjpakpphhhaa.Kit
structure HmI (W1 W : World) (ab r : Nat) (P : List Bk) : Prop where
 B : Below W1.heap.size W1 W
 A : ∃ ao cap, AllI W ab r P ao cap
 h : W1.heap.size ≤ ab
 hr : W1.heap.size ≤ r
 hl : r < W.heap.size
 apt : Apt [] P
 inp : ∀ i, i < P.length → InP (P.getD i .zero)
theorem HmI.below {W1 W W' : World} {ab r : Nat} {P : List Bk} (h : HmI W1 W ab r P) (hb : Below W.heap.size W W') : HmI W1 W' ab r P := by
 obtain ⟨ao, cap, hA⟩ := h.A
 exact ⟨Below.next h.B hb, ⟨ao, cap, hA.below hb⟩, h.h, h.hr, Nat.lt_of_lt_of_le h.hl hb.size, h.apt, h.inp⟩
theorem hm_add {W1 W : World} {ab r : Nat} {P : List Bk} (h : HmI W1 W ab r P) (b : Bk) (hb : InP b) :
    Calls Try.prog 38 #[.agg #[.int .i64 b.a, .int .i64 b.o, .int .i64 b.t], .pointer (some ⟨ab, 0, none⟩)] W fun e w' =>
     ∃ r', (e = .returned (.bool true) ∧ HmI W1 w' ab r' (P ++ [b]) ∧ (r' = r ∨ W.heap.size ≤ r') ∧ Bu2 r ab W w') ∨ (e = .returned (.bool false) ∧ (∀ q, ¬ Apt [] (P ++ [b] ++ q)) ∧ Below W.heap.size W w') := by
 obtain ⟨ao, cap, hA⟩ := h.A
 have hlen := apt_len h.apt h.inp
 refine (heapMayF_any W ab r P ao cap b hA h.inp (by omega) hb).mono ?_
 rintro e w' (⟨rfl, h1, r', ao', cap', h2, h3, h4⟩ | ⟨rfl, h1, h2⟩)
 ·have hsz : W.heap.size ≤ w'.heap.size := h4.size
  refine ⟨r', .inl ⟨rfl, ⟨h.B.trans (h4.below h.hr h.h h.B.size), ⟨_, _, h2⟩, h.h, ?_, ?_, apt_snoc h.apt h1, inP_snoc h.inp hb⟩, h3, h4⟩⟩
  ·have := h.hr; have := h.B.size; rcases h3 with rfl | h3 <;> omega
  ·rcases h3 with e | h5
   ·have := h.hl; omega
   ·cases ao' with
    | none =>
     have := h2.own.1
     rw [length_bvals] at this
     rcases h2.own.2 with ⟨e, _⟩ | ⟨g, cp, cur, e, _⟩
     ·have h6 : (P ++ [b]).length = 0 := by injection e
      simp at h6
     ·injection e with e1; cases e1
    | some ad =>
     have e1 := h2.r ad rfl
     obtain ⟨g, e2, _, h7⟩ := owns_head h2.own (by simp)
     cases e2
     have : g = r' := e1
     omega
 ·exact ⟨r, .inr ⟨rfl, fun q => not_apt h1, h2⟩⟩
theorem HmI.lab {W1 W : World} {ab r : Nat} {P : List Bk} (h : HmI W1 W ab r P) : ab < W.heap.size := by
 obtain ⟨ao, cap, hA⟩ := h.A
 exact hA.lt
theorem hm_start {W : World} {b : Nat} (h : W.heap[b]? = some (.cells #[.slice none 0 0] 25 (0, 0))) : AllI W b b [] none 0 :=
 ⟨by simp [World.cell?, h], by simp [World.frozen?, h], ⟨rfl, .inl ⟨rfl, rfl⟩⟩, fun a ha => by cases ha⟩
theorem ahead_c (a b : Ls) (po po' : Value) [Decidable (aheadL a b)] (w : World) :
    Calls Try.prog 41 #[.agg #[.int .i64 a.c, .int .i64 a.z, .int .i64 a.t, po], .agg #[.int .i64 b.c, .int .i64 b.z, .int .i64 b.t, po']] w fun e w' => e = .returned (.bool (decide (aheadL a b))) ∧ Below w.heap.size w w' :=
 ahead_b w a b po po' _ (by simp)
theorem power_c (o : Int) (h0 : 0 ≤ o) (h1 : o ≤ 4) (w : World) : Calls Try.prog 40 #[.int .i64 o] w fun e w' => e = .returned (.int .i64 (pw o)) ∧ Below w.heap.size w w' := by
 refine (power_v o _ (by omega) (by omega) rfl w).mono ?_
 rintro e w' ⟨rfl, rfl⟩
 exact ⟨rfl, Below.refl _ _⟩
abbrev FZ (c : Zc) : List Bk := c.z.free
abbrev FL (c : Lc) : List Bk := c.l.pages.map pgB
theorem free_at {x : Hx} (hz : ZsOk x.hp) {i k : Nat} (hi : i < x.zs.length) (hk : k < (FZ (x.zs.getD i .zero)).length) : InP ((FZ (x.zs.getD i .zero)).getD k .zero) :=
 free_in hz _ (getD_mem (d := Zc.zero) hi) k hk
theorem zone_bd {x : Hx} (hz : ZsOk x.hp) {i : Nat} (hi : i < x.zs.length) : 0 ≤ (x.zs.getD i .zero).z.f ∧ (x.zs.getD i .zero).z.f ≤ (x.zs.getD i .zero).z.t ∧ (x.zs.getD i .zero).z.t ≤ 256 := by
 have h0 := hz.m0.new
 have h1 := hz.m1.new
 rw [zoneOf_hp] at h0 h1
 obtain ⟨a1, a2, a3, _, _⟩ := h0
 obtain ⟨b1, b2, b3, _, _⟩ := h1
 rcases two_zones hz _ (getD_mem (d := Zc.zero) hi) with e | e <;> rw [e] <;> omega
structure LsI (x : Hx) (i : Nat) : Prop where
 ok : ∀ j, j < i → LsOk x.hp (x.ls.getD j .zero).l
 ord : ∀ j, 0 < j → j < i → aheadL (x.ls.getD (j - 1) .zero).l (x.ls.getD j .zero).l
theorem LsI.nil (x : Hx) : LsI x 0 := ⟨fun j h => by omega, fun j _ h => by omega⟩
theorem LsI.succ {x : Hx} {i : Nat} (h : LsI x i) (ho : LsOk x.hp (x.ls.getD i .zero).l) (ha : 0 < i → aheadL (x.ls.getD (i - 1) .zero).l (x.ls.getD i .zero).l) : LsI x (i + 1) := by
 refine ⟨fun j hj => ?_, fun j h0 hj => ?_⟩
 ·by_cases e : j = i
  ·rw [e]; exact ho
  ·exact h.ok j (by omega)
 ·by_cases e : j = i
  ·rw [e]; exact ha (by omega)
  ·exact h.ord j h0 (by omega)
theorem LsI.all {x : Hx} {i : Nat} (h : LsI x i) (hi : x.ls.length ≤ i) : LssOk x.hp := by
 have e : x.hp.lists.length = x.ls.length := by show (x.ls.map _).length = _; rw [List.length_map]
 exact ⟨fun j hj => by rw [listOf_hp]; exact h.ok j (by omega), fun j h0 hj => by rw [listOf_hp, listOf_hp]; exact h.ord j h0 (by omega)⟩
structure LvI (l : List Bk) (i : Nat) : Prop where
 ok : ∀ j, j < i → LvOk (l.getD j .zero)
 ord : ∀ j, 0 < j → j < i → (l.getD (j - 1) .zero).a < (l.getD j .zero).a
theorem LvI.nil (l : List Bk) : LvI l 0 := ⟨fun j h => by omega, fun j _ h => by omega⟩
theorem LvI.succ {l : List Bk} {i : Nat} (h : LvI l i) (ho : LvOk (l.getD i .zero)) (ha : 0 < i → (l.getD (i - 1) .zero).a < (l.getD i .zero).a) : LvI l (i + 1) := by
 refine ⟨fun j hj => ?_, fun j h0 hj => ?_⟩
 ·by_cases e : j = i
  ·rw [e]; exact ho
  ·exact h.ok j (by omega)
 ·by_cases e : j = i
  ·rw [e]; exact ha (by omega)
  ·exact h.ord j h0 (by omega)
theorem placed_x (x : Hx) : placed x.hp = x.zs.flatMap FZ ++ (x.ls.flatMap FL ++ x.live) := by
 unfold placed Hx.hp FZ FL
 simp only [List.flatMap_map]
end Go.Proofs.Ytnijjpakpphhhaa
