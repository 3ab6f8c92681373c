/-
  OWN TEXT. The walk of the law BuddyGives: it returns true and writes nothing that was there.
-/
import Derived.Test.YtamkgakhgfhmjaeZcGive
import Derived.Test.YtamkgakhgfhmjaeRefZg
import Derived.Test.YtamkgakhgfhmjaeSameZ
import Derived.Test.YtamkgakhgfhmjaeZArgs
import Derived.Test.YtamkgakhgfhmjaeZRet
namespace Go.Proofs.Ytamkgakhgfhmjae
open Go Go.RowKit Go.Proofs.Ytamkgakhgfhmjae.Kit

set_option maxHeartbeats 4000000 in
theorem buddyGives_both (z : Zn) (fo : Option Addr) (fn fc : Nat) (to_ : Option Addr) (tn tc : Nat) (a o : Int) (w : World) (h : ZnAt w fo fn to_ tn z) (Z : Zn) (c : Int)
    (HC : ∀ W ko kn kc lo ln lc, ZnAt W ko kn lo ln z → Calls Try.prog 15 #[.agg #[.int .i64 z.f, .int .i64 z.t, .slice ko kn kc, .slice lo ln lc], .int .i64 a, .int .i64 o] W fun e w' => RetAny w' Z c e ∧ Below W.heap.size W w')
    (HR : ∀ W ko kn kc lo ln lc, ZnAt W ko kn lo ln z → Calls Try.prog 16 #[.agg #[.int .i64 z.f, .int .i64 z.t, .slice ko kn kc, .slice lo ln lc], .int .i64 a, .int .i64 o] W fun e w' => RetAny w' Z c e ∧ Below W.heap.size W w') :
    Calls Try.prog 6 #[.agg #[.int .i64 z.f, .int .i64 z.t, .slice fo fn fc, .slice to_ tn tc], .int .i64 a, .int .i64 o] w fun e w' => e = .returned (.bool true) ∧ Below w.heap.size w w' := by
  have hb0 := below_box w (.cells #[.int .i64 z.f, .int .i64 z.t, .slice fo fn fc, .slice to_ tn tc] 25)
  have P := zbox_new w (.int .i64 z.f) (.int .i64 z.t) (.slice fo fn fc) (.slice to_ tn tc) 25
  replace h := h.below hb0
  have HC' : Hid _ := HC
  have HR' : Hid _ := HR
  have HK := zoneCopy_any _ fo fn fc to_ tn tc z h
  have p0 := P.c0
  have p1 := P.c1
  have p2 := P.c2
  have p3 := P.c3
  clear HC HR
  go_enter Try.func6, Try.ntmps6
  go_wp2_with fail
  go_at_call 11
  refine HK.mono ?_
  rintro e w1 ⟨⟨ko, kn, kc, lo, ln, lc, rfl, hk, _, _⟩, hb1⟩
  obtain rfl : kn = fn := hk.free.len.symm.trans (h.below hb1).free.len
  obtain rfl : ln = tn := hk.types.len.symm.trans (h.below hb1).types.len
  have hbk := below_box w1 (.cells #[.int .i64 z.f, .int .i64 z.t, .slice ko kn kc, .slice lo ln lc] 25)
  have K := zbox_new w1 (.int .i64 z.f) (.int .i64 z.t) (.slice ko kn kc) (.slice lo ln lc) 25
  have hB1 := hb0.trans ((hb1.mono hb0.size).trans (hbk.mono (Nat.le_trans hb0.size hb1.size)))
  replace h := (h.below hb1).below hbk
  replace hk := hk.below hbk
  replace P := (P.below hb1).below hbk
  have HC2 := HC'.out _ ko kn kc lo ln lc hk
  replace p0 := P.c0
  replace p1 := P.c1
  replace p2 := P.c2
  replace p3 := P.c3
  have k0 := K.c0
  have k1 := K.c1
  have k2 := K.c2
  have k3 := K.c3
  clear HK HC' hb0 hb1 hbk
  go_wp2_with fail
  go_at_call 15
  refine HC2.mono ?_
  rintro e w2 ⟨⟨xo, xn, xc, yo, yn, yc, rfl, hx⟩, hb2⟩
  have hbx := below_box w2 (.cells #[.int .i64 Z.f, .int .i64 Z.t, .slice xo xn xc, .slice yo yn yc] 25)
  have X := zbox_new w2 (.int .i64 Z.f) (.int .i64 Z.t) (.slice xo xn xc) (.slice yo yn yc) 25
  have hB2 := hB1.trans ((hb2.mono hB1.size).trans (hbx.mono (Nat.le_trans hB1.size hb2.size)))
  replace h := (h.below hb2).below hbx
  replace hk := (hk.below hb2).below hbx
  replace hx := hx.below hbx
  replace P := (P.below hb2).below hbx
  replace K := (K.below hb2).below hbx
  have HR2 := HR'.out _ fo kn fc to_ ln tc h
  replace p0 := P.c0
  replace p1 := P.c1
  replace p2 := P.c2
  replace p3 := P.c3
  clear HC2 HR' hB1 hb2 hbx k0 k1 k2 k3
  go_wp2_with fail
  go_at_call 16
  refine HR2.mono ?_
  rintro e w3 ⟨⟨go, gn, gc, uo, un, uc, rfl, hy⟩, hb3⟩
  obtain rfl : gn = xn := hy.free.len.symm.trans (hx.below hb3).free.len
  obtain rfl : un = yn := hy.types.len.symm.trans (hx.below hb3).types.len
  have hby := below_box w3 (.cells #[.int .i64 Z.f, .int .i64 Z.t, .slice go gn gc, .slice uo un uc] 25)
  have Y := zbox_new w3 (.int .i64 Z.f) (.int .i64 Z.t) (.slice go gn gc) (.slice uo un uc) 25
  have hB3 := hB2.trans ((hb3.mono hB2.size).trans (hby.mono (Nat.le_trans hB2.size hb3.size)))
  replace h := (h.below hb3).below hby
  replace hk := (hk.below hb3).below hby
  replace hx := (hx.below hb3).below hby
  replace hy := hy.below hby
  replace P := (P.below hb3).below hby
  replace K := (K.below hb3).below hby
  replace X := (X.below hb3).below hby
  have x0 := X.c0
  have x1 := X.c1
  have x2 := X.c2
  have x3 := X.c3
  have y0 := Y.c0
  have y1 := Y.c1
  have y2 := Y.c2
  have y3 := Y.c3
  clear HR2 hB2 hb3 hby p0 p1 p2 p3
  go_wp2_with fail
  go_at_call 14
  refine (sameZone_eq _ Z.f Z.t xo go yo uo gn xc gc un yc uc Z hx hy).mono ?_
  rintro e w4 ⟨rfl, hb4⟩
  have hB4 := hB3.trans (hb4.mono hB3.size)
  replace h := h.below hb4
  replace hk := hk.below hb4
  replace P := P.below hb4
  replace K := K.below hb4
  have p0 := P.c0
  have p1 := P.c1
  have p2 := P.c2
  have p3 := P.c3
  have k0 := K.c0
  have k1 := K.c1
  have k2 := K.c2
  have k3 := K.c3
  clear hb4 hB3 x0 x1 x2 x3 y0 y1 y2 y3 X Y
  go_wp2_with fail
  go_at_call 14
  refine (sameZone_eq _ z.f z.t ko fo lo to_ kn kc fc ln lc tc z hk h).mono ?_
  rintro e w5 ⟨rfl, hb5⟩
  go_wp2
  go_ret
  exact ⟨rfl, hB4.trans (hb5.mono hB4.size)⟩

theorem buddyGives_walk (f t : Int) (fo : Option Addr) (fn fc : Nat) (to_ : Option Addr) (tn tc : Nat) (fr : List Bk) (ty : List Int) (a o : Int) (w : World) (h : IsZone w fo fn fc to_ tn tc ⟨f, t, fr, ty⟩) (_wa : (Lit.int .i64 a).wf = true) (_wo : (Lit.int .i64 o).wf = true) :
    Calls Try.prog 6 #[.agg #[.int .i64 f, .int .i64 t, .slice fo fn fc, .slice to_ tn tc], .int .i64 a, .int .i64 o] w fun e w' => e = .returned (.bool true) ∧ Below w.heap.size w w' := by
  by_cases hM : ZMay ⟨f, t, fr, ty⟩
  · by_cases hb : giveOk ⟨f, t, fr, ty⟩ a o
    · obtain ⟨G, hG⟩ : ∃ G, giveK o.toNat ⟨f, t, fr, ty⟩ a = G := ⟨_, rfl⟩
      cases G with
      | none => exact buddyGives_both ⟨f, t, fr, ty⟩ fo fn fc to_ tn tc a o w h.zn ⟨0, 0, [], []⟩ 5 (fun W ko kn kc lo ln lc hz => (zGive_do W ko kn kc lo ln lc ⟨f, t, fr, ty⟩ a o hz hM hb none hG).mono fun e w' (g : _ ∧ _) => ⟨(by rcases g.1 with ⟨Z, e1, _⟩ | ⟨_, e2⟩; cases e1; exact e2.any), g.2⟩) (fun W ko kn kc lo ln lc hz => (givenOf_do W ko kn kc lo ln lc ⟨f, t, fr, ty⟩ a o hz hM hb none hG).mono fun e w' (g : _ ∧ _) => ⟨(by rcases g.1 with ⟨Z, e1, _⟩ | ⟨_, e2⟩; cases e1; exact e2.any), g.2⟩)
      | some Y => exact buddyGives_both ⟨f, t, fr, ty⟩ fo fn fc to_ tn tc a o w h.zn Y 0 (fun W ko kn kc lo ln lc hz => (zGive_do W ko kn kc lo ln lc ⟨f, t, fr, ty⟩ a o hz hM hb (some Y) hG).mono fun e w' (g : _ ∧ _) => ⟨(by rcases g.1 with ⟨Z, e1, e2⟩ | ⟨e1, _⟩; cases e1; exact e2.any; cases e1), g.2⟩) (fun W ko kn kc lo ln lc hz => (givenOf_do W ko kn kc lo ln lc ⟨f, t, fr, ty⟩ a o hz hM hb (some Y) hG).mono fun e w' (g : _ ∧ _) => ⟨(by rcases g.1 with ⟨Z, e1, e2⟩ | ⟨e1, _⟩; cases e1; exact e2.any; cases e1), g.2⟩)
    · exact buddyGives_both ⟨f, t, fr, ty⟩ fo fn fc to_ tn tc a o w h.zn ⟨0, 0, [], []⟩ 1 (fun W ko kn kc lo ln lc hz => (zGive_range W ko kn kc lo ln lc ⟨f, t, fr, ty⟩ a o hz hM hb).mono fun e w' g => ⟨g.1.any, g.2⟩) (fun W ko kn kc lo ln lc hz => (givenOf_range W ko kn kc lo ln lc ⟨f, t, fr, ty⟩ a o hz hM hb).mono fun e w' g => ⟨g.1.any, g.2⟩)
  · exact buddyGives_both ⟨f, t, fr, ty⟩ fo fn fc to_ tn tc a o w h.zn ⟨0, 0, [], []⟩ 8 (fun W ko kn kc lo ln lc hz => (zGive_no W ko kn kc lo ln lc ⟨f, t, fr, ty⟩ a o hz h.fits hM).mono fun e w' g => ⟨g.1.any, g.2⟩) (fun W ko kn kc lo ln lc hz => (givenOf_no W ko kn kc lo ln lc ⟨f, t, fr, ty⟩ a o hz hM).mono fun e w' g => ⟨g.1.any, g.2⟩)

end Go.Proofs.Ytamkgakhgfhmjae
