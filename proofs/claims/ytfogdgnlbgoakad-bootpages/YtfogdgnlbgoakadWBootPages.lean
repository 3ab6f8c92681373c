/-
  OWN TEXT. The walk of the law BootPages: it returns true and writes nothing that was there.
-/
import Derived.Test.YtfogdgnlbgoakadKBoot
import Derived.Test.YtfogdgnlbgoakadKpagesC
import Derived.Test.YtfogdgnlbgoakadCPure
import Derived.Test.YtfogdgnlbgoakadBcMain
import Derived.Test.YtfogdgnlbgoakadBcCheck
namespace Go.Proofs.Ytfogdgnlbgoakad
open Go Go.RowKit Go.Proofs.Ytfogdgnlbgoakad.Kit

theorem new_two' (w : World) (a b : Value) (t : TypeId) : (w.alloc (.cells #[a, b] t)).cell? ⟨w.heap.size, 0, none⟩ = some a ∧ (w.alloc (.cells #[a, b] t)).cell? ⟨w.heap.size, 1, none⟩ = some b := by
  constructor <;> go_simp

set_option maxHeartbeats 8000000 in
set_option maxRecDepth 10000 in
theorem bootPages_walk (ao : Option Addr) (n cap : Nat) (l : List Raw4) (w : World) (h : IsRaws w ao n cap l) :
    Calls Try.prog 3 #[.slice ao n cap] w fun e w' => e = .returned (.bool true) ∧ Below w.heap.size w w' := by
  go_enter Try.func3, Try.ntmps3
  go_wp2_with fail
  go_at_call 6
  refine (booted_any w ao n cap l h 30 (by omega)).mono ?_
  rintro e w1 ⟨mo, mn, mc, M, ro, rn, rc, R, cur, rfl, gM, gR, hM, hR, hcur, lM, lR, hb1⟩
  obtain ⟨N, hN⟩ : ∃ N, N = 512 := ⟨_, rfl⟩
  have zT : ∀ w, (sizeOf 27).run Try.prog w = .ok N w := by subst hN; exact fun _ => by kernel_rfl
  have hcN : cur.size = N := by rw [hcur.size, hN]
  have hz := zero_b2
  have hst : ∀ X : World, X.heap[w1.heap.size + 1]? = some (.cells zc512 27 (0, 0)) → (storeCells ⟨w1.heap.size + 1, 0, none⟩ cur.toList 0).run Try.prog X = .ok () (X.setRow (w1.heap.size + 1) cur) := fun X hX => store_row hX (by rw [hcur.size]; simp [zc512]) (cur_oneCell hcur)
  have hX0 : ((w1.alloc (.cells #[.slice mo mn mc, .slice ro rn rc] 25)).alloc (.cells zc512 27)).heap[w1.heap.size + 1]? = some (.cells zc512 27 (0, 0)) := by have := heap_alloc_new (w1.alloc (.cells #[.slice mo mn mc, .slice ro rn rc] 25)) (.cells zc512 27); simpa using this
  have hst1 := hst ((w1.alloc (.cells #[.slice mo mn mc, .slice ro rn rc] 25)).alloc (.cells zc512 27)) hX0
  obtain ⟨W2, hW2⟩ : ∃ W2, ((w1.alloc (.cells #[.slice mo mn mc, .slice ro rn rc] 25)).alloc (.cells zc512 27)).setRow (w1.heap.size + 1) cur = W2 := ⟨_, rfl⟩
  have hb2 : Below w1.heap.size w1 W2 := by rw [← hW2]; exact below_setRow (((Below.refl _ _).alloc (Nat.le_refl _) _).alloc (by simp) _) (by omega) _
  have hblk : W2.heap[w1.heap.size]? = (w1.alloc (.cells #[.slice mo mn mc, .slice ro rn rc] 25)).heap[w1.heap.size]? := by rw [← hW2, setRow_other _ _ _ _ (by omega), Below.heap_alloc _ _ _ (by simp)]
  have hrow : W2.heap[w1.heap.size + 1]? = some (.cells cur 27 (0, 0)) := by rw [← hW2]; exact setRow_heap _ _ _ _ _ _ hX0
  have c0 : W2.cell? ⟨w1.heap.size, 0, none⟩ = some (.slice mo mn mc) := (World.cell?_of_block (a := ⟨w1.heap.size, 0, none⟩) hblk).trans (new_two' _ _ _ _).1
  have c1 : W2.cell? ⟨w1.heap.size, 1, none⟩ = some (.slice ro rn rc) := (World.cell?_of_block (a := ⟨w1.heap.size, 1, none⟩) hblk).trans (new_two' _ _ _ _).2
  have cM : ∀ p : Nat, p < 256 → W2.cell? ⟨w1.heap.size + 1, p, none⟩ = some (.bool (inL M p)) := fun p hp => (cell_of_row _ _ p cur _ _ hrow).trans (hcur.m p hp)
  have cR : ∀ p : Nat, p < 256 → W2.cell? ⟨w1.heap.size + 1, 256 + p, none⟩ = some (.bool (inL R p)) := fun p hp => (cell_of_row _ _ (256 + p) cur _ _ hrow).trans (hcur.r p hp)
  rw [hW2] at hst1
  have m2 := gM.below hb2
  have r2 := gR.below hb2
  have hB2 := hb1.trans (hb2.mono hb1.size)
  clear hst hN hblk gM gR hb1 hb2 hcur hX0 hrow
  obtain ⟨D, hD⟩ : ∃ D, drawnAll (freeH M R) = D := ⟨_, rfl⟩
  have hDc : Canon 256 0 D := by rw [← hD]; exact drawnAll_canon _
  have HP : Hid (∀ p : Nat, p < 256 → D.any (pageIn p) = freeH M R p) := fun p hp => by rw [← inL_any, ← hD]; exact drawnAll_pages _ _ (by omega) (by omega)
  have HR := cRanges_ok W2 mo mn mc M ro rn rc R m2 r2 ⟨hM, hR⟩
  rw [hD] at HR
  clear hD
  go_wp2_with fail
  go_at_call 7
  refine HR.mono ?_
  rintro e w3 ⟨fo, fn, fc, rfl, gD, hb3⟩
  clear HR hW2 hst1 hz
  replace c0 := keep c0 hb3
  replace c1 := keep c1 hb3
  have kM : ∀ p : Nat, p < 256 → w3.cell? ⟨w1.heap.size + 1, p, none⟩ = some (.bool (inL M p)) := fun p hp => keep (cM p hp) hb3
  have kR : ∀ p : Nat, p < 256 → w3.cell? ⟨w1.heap.size + 1, 256 + p, none⟩ = some (.bool (inL R p)) := fun p hp => keep (cR p hp) hb3
  have m3 := m2.below hb3
  have r3 := r2.below hb3
  have hB3 := hB2.trans (hb3.mono hB2.size)
  clear cM cR m2 r2 hB2 hb3
  obtain ⟨N, hN1, hN2⟩ : ∃ N : Nat, N ≤ 256 ∧ 256 ≤ N := ⟨256, Nat.le_refl _, Nat.le_refl _⟩
  clear zT hcN
  go_wp2
  go_loopw [21] (fun i wr => ∃ k : Nat, k ≤ N ∧ i = .int .i64 k ∧ Below w3.heap.size w3 wr) (fun i _ => N - (intOf i).toNat)
  case atStart => exact ⟨0, Nat.zero_le _, rfl, Below.refl _ _⟩
  case round =>
    obtain ⟨k, hk, rfl, hb⟩ := hrel
    by_cases hlt : k < N
    · have hnew : ∀ x : Value, (wr.alloc (.cells #[x] 3)).cell? ⟨wr.heap.size, 0, none⟩ = some x := fun x => by go_simp
      have hb1 := below_box wr (.cells #[.int .i64 k] 3)
      have hcc : HoldsR 9 #[.pointer (some ⟨wr.heap.size, 0, none⟩)] D (pageIn k) (wr.alloc (.cells #[.int .i64 k] 3)) := fun i hi W hW => pagesF_any W wr.heap.size k _ _ (keep (hnew _) hW) (canon_ok hDc i hi)
      have HC := contains_pagesF (wr.alloc (.cells #[.int .i64 k] 3)) (.pointer (some ⟨wr.heap.size, 0, none⟩)) fo fn fc D (pageIn k) ((gD.below hb).below hb1) hcc
      rw [HP.out k (by omega)] at HC
      clear hcc
      go_wp2_with fail
      go_at_call 8
      refine HC.mono ?_
      rintro e w5 ⟨rfl, hb5⟩
      have hnk := keep (hnew (.int .i64 k)) hb5
      have hbw := hb.trans ((hb1.trans (hb5.mono hb1.size)).mono hb.size)
      have kM1 := keep (kM k (by omega)) hbw
      have kR1 := keep (kR k (by omega)) hbw
      have HF : Hid (freeH M R k = (inL M k && !inL R k)) := rfl
      obtain ⟨fb, hfb⟩ : ∃ b, freeH M R k = b := ⟨_, rfl⟩
      rw [hfb] at HF ⊢
      clear hfb HC hnew hb hb1 hb5 kM kR
      obtain ⟨bm, hbm⟩ : ∃ b, inL M k = b := ⟨_, rfl⟩
      obtain ⟨br, hbr⟩ : ∃ b, inL R k = b := ⟨_, rfl⟩
      rw [hbm] at kM1 HF
      rw [hbr] at kR1 HF
      clear hbm hbr
      cases bm <;> cases br
      all_goals
        have HF' := HF.out
        subst HF'
        clear HF
        go_wp2
        go_roundw
        case rel => exact ⟨k + 1, by omega, by go_num, hbw⟩
        case measure => simp [intOf]; omega
    · replace c0 := keep c0 hb
      replace c1 := keep c1 hb
      have m4 := m3.below hb
      have r4 := r3.below hb
      have hB4 := hB3.trans (hb.mono hB3.size)
      clear kM kR m3 r3 hB3 hb HP gD hDc
      go_wp2_with fail
      go_at_call 10
      refine (cCheck_ok _ mo mn mc M ro rn rc R m4 r4 ⟨hM, hR⟩).mono ?_
      rintro e w5 ⟨rfl, hb5⟩
      go_wp2
      go_ret
      exact ⟨rfl, hB4.trans (hb5.mono hB4.size)⟩

end Go.Proofs.Ytfogdgnlbgoakad
