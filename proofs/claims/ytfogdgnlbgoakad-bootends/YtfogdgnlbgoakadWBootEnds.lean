/-
  OWN TEXT. The walk of the law BootEnds: it returns true and writes nothing that was there.
-/
import Derived.Test.YtfogdgnlbgoakadKBoot
import Derived.Test.YtfogdgnlbgoakadAPure2
import Derived.Test.YtfogdgnlbgoakadAFew
import Derived.Test.YtfogdgnlbgoakadBcMain
namespace Go.Proofs.Ytfogdgnlbgoakad
open Go Go.RowKit Go.Proofs.Ytfogdgnlbgoakad.Kit

theorem new_two (w : World) (a b : Value) (t : TypeId) : (w.alloc (.cells #[a, b] t)).cell? ⟨w.heap.size, 0, none⟩ = some a ∧ (w.alloc (.cells #[a, b] t)).cell? ⟨w.heap.size, 1, none⟩ = some b := by
  constructor <;> go_simp

set_option maxHeartbeats 8000000 in
set_option maxRecDepth 10000 in
theorem bootEnds_walk (ao : Option Addr) (n cap : Nat) (l : List Raw4) (size : Int) (w : World) (h : IsRaws w ao n cap l) (wf : (Lit.int .i64 size).wf = true) :
    Calls Try.prog 5 #[.slice ao n cap, .int .i64 size] w fun e w' => e = .returned (.bool true) ∧ Below w.heap.size w w' := by
  go_enter Try.func5, Try.ntmps5
  go_wp2_with fail
  go_at_call 6
  refine (booted_any w ao n cap l h 20 (by omega)).mono ?_
  rintro e w1 ⟨mo, mn, mc, M, ro, rn, rc, R, cur, rfl, gM, gR, hM, hR, hcur, lM, lR, hb1⟩
  obtain ⟨N, hN⟩ : ∃ N, N = 512 := ⟨_, rfl⟩
  have zT : ∀ w, (sizeOf 27).run Try.prog w = .ok N w := by subst hN; exact fun _ => by kernel_rfl
  have hcN : cur.size = N := by rw [hcur.size, hN]
  have hz := zero_b2
  have hst : ∀ X : World, X.heap[w1.heap.size + 1]? = some (.cells zc512 27 (0, 0)) → (storeCells ⟨w1.heap.size + 1, 0, none⟩ cur.toList 0).run Try.prog X = .ok () (X.setRow (w1.heap.size + 1) cur) := fun X hX => store_row hX (by rw [hcur.size]; simp [zc512]) (cur_oneCell hcur)
  have hst1 := hst ((w1.alloc (.cells #[.slice mo mn mc, .slice ro rn rc] 25)).alloc (.cells zc512 27)) (by have := heap_alloc_new (w1.alloc (.cells #[.slice mo mn mc, .slice ro rn rc] 25)) (.cells zc512 27); simpa using this)
  obtain ⟨W2, hW2⟩ : ∃ W2, ((w1.alloc (.cells #[.slice mo mn mc, .slice ro rn rc] 25)).alloc (.cells zc512 27)).setRow (w1.heap.size + 1) cur = W2 := ⟨_, rfl⟩
  have hb2 : Below w1.heap.size w1 W2 := by rw [← hW2]; exact below_setRow (((Below.refl _ _).alloc (Nat.le_refl _) _).alloc (by simp) _) (by omega) _
  have hblk : W2.heap[w1.heap.size]? = (w1.alloc (.cells #[.slice mo mn mc, .slice ro rn rc] 25)).heap[w1.heap.size]? := by rw [← hW2, setRow_other _ _ _ _ (by omega), Below.heap_alloc _ _ _ (by simp)]
  have c0 : W2.cell? ⟨w1.heap.size, 0, none⟩ = some (.slice mo mn mc) := (World.cell?_of_block (a := ⟨w1.heap.size, 0, none⟩) hblk).trans (new_two _ _ _ _).1
  have c1 : W2.cell? ⟨w1.heap.size, 1, none⟩ = some (.slice ro rn rc) := (World.cell?_of_block (a := ⟨w1.heap.size, 1, none⟩) hblk).trans (new_two _ _ _ _).2
  rw [hW2] at hst1
  have m2 := gM.below hb2
  have r2 := gR.below hb2
  have hB2 := hb1.trans (hb2.mono hb1.size)
  clear hst hN hblk gM gR hb1 hb2 hcur
  go_wp2_with fail
  go_at_call 11
  refine (picked_int size _ 20 (by rfl) wf (by omega) (by omega) _).mono ?_
  rintro e w' ⟨⟨r, hr, rfl⟩, rfl⟩
  clear hW2 hst1 hz
  obtain ⟨sz, hsz⟩ : ∃ s : Nat, (1 : Int) + r = s := ⟨1 + r, by simp⟩
  have hs1 : 1 ≤ sz := by omega
  have hs2 : sz ≤ 20 := by omega
  have hboth := best_both (freeH M R) sz 1 0 (places sz 0 256)
  obtain ⟨B1, hB1⟩ : ∃ B, bestK (freeH M R) sz 1 0 false (places sz 0 256) = B := ⟨_, rfl⟩
  obtain ⟨B2, hB2'⟩ : ∃ B, bestK (freeH M R) sz 1 0 true (places sz 0 256) = B := ⟨_, rfl⟩
  rw [hB1, hB2'] at hboth
  have HB1 : Hid _ := hB1
  have HB2 : Hid _ := hB2'
  clear hB1 hB2' wf
  have HA := cAlloc_main W2 mo mn mc M ro rn rc R sz 1 0 256 false m2 r2 ⟨hM, hR⟩ hs1 (by omega) (by omega) (by omega) (by omega) (by omega)
  rw [HB1.out] at HA
  go_wp2_with fail
  go_at_call 12
  refine HA.mono ?_
  rintro e w3 ⟨HE, hb3⟩
  clear HA
  have HE2 : ∃ xm xn xc xr xo xd i c, e = .returned (.tuple #[.agg #[.slice xm xn xc, .slice xr xo xd], .int .i64 i, .int .i64 c]) ∧ ((B1 < 0 ∧ c = 6) ∨ (0 ≤ B1 ∧ c = 0 ∧ i = B1)) := by
    rcases alloc_few HE hR (by omega) hs1 with ⟨g1, g2⟩ | ⟨g1, a1, a2, a3, a4, a5, a6, g2, _⟩
    · exact ⟨_, _, _, _, _, _, _, _, g2, Or.inl ⟨g1, rfl⟩⟩
    · exact ⟨_, _, _, _, _, _, _, _, g2, Or.inr ⟨g1, rfl, rfl⟩⟩
  clear HE
  obtain ⟨xm, xn, xc, xr, xo, xd, i1, e1, rfl, hc1⟩ := HE2
  have hbx := below_box w3 (.cells #[.slice xm xn xc, .slice xr xo xd] 25)
  have m3 := (m2.below hb3).below hbx
  have r3 := (r2.below hb3).below hbx
  replace c0 := keep (keep c0 hb3) hbx
  replace c1 := keep (keep c1 hb3) hbx
  have hB4 := (hB2.trans (hb3.mono hB2.size)).trans (hbx.mono (Nat.le_trans hB2.size hb3.size))
  clear m2 r2 hb3 hbx hB2
  have HA := cAlloc_main _ mo mn mc M ro rn rc R sz 1 0 256 true m3 r3 ⟨hM, hR⟩ hs1 (by omega) (by omega) (by omega) (by omega) (by omega)
  rw [HB2.out] at HA
  go_wp2_with fail
  go_at_call 12
  refine HA.mono ?_
  rintro e w5 ⟨HE, hb5⟩
  clear HA
  have HE2 : ∃ xm xn xc xr xo xd i c, e = .returned (.tuple #[.agg #[.slice xm xn xc, .slice xr xo xd], .int .i64 i, .int .i64 c]) ∧ ((B2 < 0 ∧ c = 6) ∨ (0 ≤ B2 ∧ c = 0 ∧ i = B2)) := by
    rcases alloc_few HE hR (by omega) hs1 with ⟨g1, g2⟩ | ⟨g1, a1, a2, a3, a4, a5, a6, g2, _⟩
    · exact ⟨_, _, _, _, _, _, _, _, g2, Or.inl ⟨g1, rfl⟩⟩
    · exact ⟨_, _, _, _, _, _, _, _, g2, Or.inr ⟨g1, rfl, rfl⟩⟩
  clear HE
  obtain ⟨ym, yn, yc, yr, yo, yd, i2, e2, rfl, hc2⟩ := HE2
  have hby := below_box w5 (.cells #[.slice ym yn yc, .slice yr yo yd] 25)
  have m5 := (m3.below hb5).below hby
  have r5 := (r3.below hb5).below hby
  replace c0 := keep (keep c0 hb5) hby
  replace c1 := keep (keep c1 hb5) hby
  have hB6 := (hB4.trans (hb5.mono hB4.size)).trans (hby.mono (Nat.le_trans hB4.size hb5.size))
  clear m3 r3 hb5 hby hB4
  obtain ⟨q, hq⟩ : ∃ q : Nat, (sz : Int) - 1 = q := ⟨sz - 1, by omega⟩
  have HA := cAlloc_main _ mo mn mc M ro rn rc R sz 1 0 q true m5 r5 ⟨hM, hR⟩ hs1 (by omega) (by omega) (by omega) (by omega) (by omega)
  have hpl : places sz 0 q = 0 := by unfold places; omega
  rw [hpl] at HA
  go_wp2_with fail
  go_at_call 12
  refine HA.mono ?_
  rintro e w7 ⟨HE, hb7⟩
  clear HA
  have he : e = .returned (.tuple #[.agg #[.slice none 0 0, .slice none 0 0], .int .i64 0, .int .i64 6]) := by
    rcases alloc_few HE hR (by omega) hs1 with ⟨_, g2⟩ | ⟨g1, _⟩
    · exact g2
    · exact absurd g1 (by show ¬ (0 : Int) ≤ -1; omega)
  subst he
  clear HE hpl
  have hB8 := hB6.trans (hb7.mono hB6.size)
  clear hb7 hB6 m5 r5 c0 c1
  have hfin : (e1 = 6 ∧ e2 = 6) ∨ (e1 = 0 ∧ e2 = 0 ∧ i1 ≤ i2) := by
    rcases hboth with ⟨g1, g2⟩ | ⟨g1, g2, g3⟩
    · left
      rcases hc1 with ⟨_, h1⟩ | ⟨h1, _⟩
      · rcases hc2 with ⟨_, h2⟩ | ⟨h2, _⟩
        · exact ⟨h1, h2⟩
        · omega
      · omega
    · right
      rcases hc1 with ⟨h1, _⟩ | ⟨_, h1, h1'⟩
      · omega
      · rcases hc2 with ⟨h2, _⟩ | ⟨_, h2, h2'⟩
        · omega
        · exact ⟨h1, h2, by omega⟩
  clear hboth hc1 hc2 hsz hq
  rcases hfin with ⟨rfl, rfl⟩ | ⟨rfl, rfl, hle⟩
  · go_wp2
    go_ret
    exact ⟨rfl, hB8.alloc (by have := hB8.size; omega) _⟩
  · go_wp2
    go_ret
    exact ⟨rfl, hB8.alloc (by have := hB8.size; omega) _⟩

end Go.Proofs.Ytfogdgnlbgoakad
