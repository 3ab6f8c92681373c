/-
  OWN TEXT. Contracts of the document's answer: BootAlloc.
-/
import Derived.Test.YtfogdgnlbgoakacRefC2
import Derived.Test.YtfogdgnlbgoakacRefN2
import Derived.Test.YtfogdgnlbgoakacAPure
namespace Go.Proofs.Ytfogdgnlbgoakac
open Go Go.RowKit Go.Proofs.Ytfogdgnlbgoakac.Kit

/-- The world in the midst of BootAlloc: its boxed argument, the result's block, and what can be read. -/
structure AlInv (w : World) (mo : Option Addr) (mn mc : Nat) (M : List (Int × Int)) (ro : Option Addr) (rn rc : Nat) (R : List (Int × Int)) (W : World) : Prop where
  size : w.heap.size + 2 ≤ W.heap.size
  b : Below w.heap.size w W
  c0 : W.cell? ⟨w.heap.size, 0, none⟩ = some (.slice mo mn mc)
  c1 : W.cell? ⟨w.heap.size, 1, none⟩ = some (.slice ro rn rc)
  res : Res2 W (w.heap.size + 1)
  m : Regs W mo mn M
  r : Regs W ro rn R

theorem AlInv.step {w : World} {mo : Option Addr} {mn mc : Nat} {M : List (Int × Int)} {ro : Option Addr} {rn rc : Nat} {R : List (Int × Int)} {W W' : World} (h : AlInv w mo mn mc M ro rn rc R W) (hb : Below W.heap.size W W') : AlInv w mo mn mc M ro rn rc R W' :=
  ⟨Nat.le_trans h.size hb.size, h.b.trans (hb.mono (by have := h.size; omega)), keep h.c0 hb, keep h.c1 hb, h.res.below hb, h.m.below hb, h.r.below hb⟩

theorem alInv_first (w : World) (mo : Option Addr) (mn mc : Nat) (M : List (Int × Int)) (ro : Option Addr) (rn rc : Nat) (R : List (Int × Int)) (hm : Regs w mo mn M) (hr : Regs w ro rn R) :
    AlInv w mo mn mc M ro rn rc R ((w.alloc (.cells #[.slice mo mn mc, .slice ro rn rc] 24)).alloc (.cells #[.slice none 0 0, .slice none 0 0] 24)) := by
  have hbb : Below w.heap.size w ((w.alloc (.cells #[.slice mo mn mc, .slice ro rn rc] 24)).alloc (.cells #[.slice none 0 0, .slice none 0 0] 24)) := ((Below.refl _ _).alloc (Nat.le_refl _) _).alloc (by simp) _
  exact ⟨by simp, hbb, by go_simp, by go_simp, ⟨⟨_, by go_simp; rfl⟩, ⟨_, by go_simp; rfl⟩, by go_simp, by go_simp⟩, hm.below hbb, hr.below hbb⟩

set_option maxHeartbeats 1000000 in
theorem bootAlloc_state (w : World) (mo : Option Addr) (mn mc : Nat) (M : List (Int × Int)) (ro : Option Addr) (rn rc : Nat) (R : List (Int × Int)) (sz al lo hi : Int) (down : Bool) (hm : Regs w mo mn M) (hr : Regs w ro rn R) (h : ¬ (MayP M ∧ MayP R)) :
    Calls Try.prog 20 #[.agg #[.slice mo mn mc, .slice ro rn rc], .int .i64 sz, .int .i64 al, .int .i64 lo, .int .i64 hi, .bool down] w fun e w' => e = .returned (.tuple #[.agg #[.slice none 0 0, .slice none 0 0], .int .i64 0, .int .i64 8]) ∧ Below w.heap.size w w' := by
  have I0 := alInv_first w mo mn mc M ro rn rc R hm hr
  clear hm hr
  go_enter Try.func20, Try.ntmps20
  go_wp2_with fail
  go_at_call 24
  refine (bootMay_any _ mo mn mc M ro rn rc R I0.m I0.r).mono ?_
  rintro e w1 ⟨⟨b, rfl, hb⟩, hb1⟩
  have I1 := I0.step hb1
  have hbf : b = false := by
    cases b with
    | false => rfl
    | true => exact absurd (hb.1 rfl) h
  subst hbf
  obtain ⟨⟨x0, d0⟩, ⟨x1, d1⟩, z0, z1⟩ := I1.res
  have hB := I1.b
  clear I0 I1 h hb hb1
  go_wp2
  obtain ⟨k0, k1⟩ := res2 d0 d1 (.slice none 0 0) (.slice none 0 0)
  exact bodyPost_ret (v := .tuple #[.agg #[.slice none 0 0, .slice none 0 0], .int .i64 0, .int .i64 8]) (by simp [results, Try.results20, go_sem, k0, k1]) rfl ⟨rfl, below2 hB (by omega) _ _⟩

set_option maxHeartbeats 1000000 in
theorem bootAlloc_range (w : World) (mo : Option Addr) (mn mc : Nat) (M : List (Int × Int)) (ro : Option Addr) (rn rc : Nat) (R : List (Int × Int)) (sz al lo hi : Int) (down : Bool) (hm : Regs w mo mn M) (hr : Regs w ro rn R) (hM : MayP M ∧ MayP R)
    (h : (inB sz 1 256 && inB al 1 256 && inB lo 0 256 && inB hi lo 256) = false) :
    Calls Try.prog 20 #[.agg #[.slice mo mn mc, .slice ro rn rc], .int .i64 sz, .int .i64 al, .int .i64 lo, .int .i64 hi, .bool down] w fun e w' => e = .returned (.tuple #[.agg #[.slice none 0 0, .slice none 0 0], .int .i64 0, .int .i64 1]) ∧ Below w.heap.size w w' := by
  have I0 := alInv_first w mo mn mc M ro rn rc R hm hr
  clear hm hr
  go_enter Try.func20, Try.ntmps20
  go_wp2_with fail
  go_at_call 24
  refine (bootMay_any _ mo mn mc M ro rn rc R I0.m I0.r).mono ?_
  rintro e w1 ⟨⟨b, rfl, hb⟩, hb1⟩
  have I1 := I0.step hb1
  have hbt : b = true := hb.2 hM
  subst hbt
  obtain ⟨⟨x0, d0⟩, ⟨x1, d1⟩, z0, z1⟩ := I1.res
  have hB := I1.b
  clear I0 I1 hb hb1 hM
  have key : ∀ (P : Prop), ((inB sz 1 256 = false) → P) → ((inB sz 1 256 = true ∧ inB al 1 256 = false) → P) → ((inB sz 1 256 = true ∧ inB al 1 256 = true ∧ inB lo 0 256 = false) → P) → ((inB sz 1 256 = true ∧ inB al 1 256 = true ∧ inB lo 0 256 = true ∧ inB hi lo 256 = false) → P) → P := by
    intro P p1 p2 p3 p4
    cases h1 : inB sz 1 256 with
    | false => exact p1 h1
    | true =>
      cases h2 : inB al 1 256 with
      | false => exact p2 ⟨h1, h2⟩
      | true =>
        cases h3 : inB lo 0 256 with
        | false => exact p3 ⟨h1, h2, h3⟩
        | true =>
          refine p4 ⟨h1, h2, h3, ?_⟩
          rw [h1, h2, h3] at h
          simpa using h
  clear h
  obtain ⟨k0, k1⟩ := res2 d0 d1 (.slice none 0 0) (.slice none 0 0)
  have K0 : Hid _ := k0
  have K1 : Hid _ := k1
  clear k0 k1
  apply key
  all_goals clear key
  · intro e1
    go_wp2_with (go_at_call 28; refine (in_any _ _ _ _).mono ?_; rintro e w' ⟨rfl, rfl⟩)
    have k0 := K0.out
    have k1 := K1.out
    exact bodyPost_ret (v := .tuple #[.agg #[.slice none 0 0, .slice none 0 0], .int .i64 0, .int .i64 1]) (by simp [results, Try.results20, go_sem, k0, k1]) rfl ⟨rfl, below2 hB (by omega) _ _⟩
  · rintro ⟨e1, e2⟩
    go_wp2_with (go_at_call 28; refine (in_any _ _ _ _).mono ?_; rintro e w' ⟨rfl, rfl⟩)
    have k0 := K0.out
    have k1 := K1.out
    exact bodyPost_ret (v := .tuple #[.agg #[.slice none 0 0, .slice none 0 0], .int .i64 0, .int .i64 1]) (by simp [results, Try.results20, go_sem, k0, k1]) rfl ⟨rfl, below2 hB (by omega) _ _⟩
  · rintro ⟨e1, e2, e3⟩
    go_wp2_with (go_at_call 28; refine (in_any _ _ _ _).mono ?_; rintro e w' ⟨rfl, rfl⟩)
    have k0 := K0.out
    have k1 := K1.out
    exact bodyPost_ret (v := .tuple #[.agg #[.slice none 0 0, .slice none 0 0], .int .i64 0, .int .i64 1]) (by simp [results, Try.results20, go_sem, k0, k1]) rfl ⟨rfl, below2 hB (by omega) _ _⟩
  · rintro ⟨e1, e2, e3, e4⟩
    go_wp2_with (go_at_call 28; refine (in_any _ _ _ _).mono ?_; rintro e w' ⟨rfl, rfl⟩)
    have k0 := K0.out
    have k1 := K1.out
    exact bodyPost_ret (v := .tuple #[.agg #[.slice none 0 0, .slice none 0 0], .int .i64 0, .int .i64 1]) (by simp [results, Try.results20, go_sem, k0, k1]) rfl ⟨rfl, below2 hB (by omega) _ _⟩

/-- How many places there are to look at. -/
def places (sz lo hi : Nat) : Nat := hi + 1 - (lo + sz)

/-- What BootAlloc answers where its numbers may be. -/
def AllocEnd (w w' : World) (M R : List (Int × Int)) (sz : Nat) (B : Int) (e : Ending) : Prop :=
  (B < 0 ∧ e = .returned (.tuple #[.agg #[.slice none 0 0, .slice none 0 0], .int .i64 0, .int .i64 6])) ∨
  (0 ≤ B ∧ 40 < (drawnAll (chH B sz true R)).length ∧ e = .returned (.tuple #[.agg #[.slice none 0 0, .slice none 0 0], .int .i64 0, .int .i64 9])) ∨
  (0 ≤ B ∧ (drawnAll (chH B sz true R)).length ≤ 40 ∧ ∃ m1 n1 c1 r1 n2 c2, e = .returned (.tuple #[.agg #[.slice m1 n1 c1, .slice r1 n2 c2], .int .i64 B, .int .i64 0]) ∧ Regs w' m1 n1 M ∧ Regs w' r1 n2 (drawnAll (chH B sz true R)) ∧ Fresh w.heap.size m1 ∧ Fresh w.heap.size r1)

set_option maxHeartbeats 8000000 in
set_option maxRecDepth 4000 in
theorem bootAlloc_main (w : World) (mo : Option Addr) (mn mc : Nat) (M : List (Int × Int)) (ro : Option Addr) (rn rc : Nat) (R : List (Int × Int)) (sz al lo hi : Nat) (down : Bool) (hm : Regs w mo mn M) (hr : Regs w ro rn R) (hM : MayP M ∧ MayP R)
    (h1 : 1 ≤ sz) (h2 : sz ≤ 256) (h3 : 1 ≤ al) (h4 : al ≤ 256) (h5 : lo ≤ hi) (h6 : hi ≤ 256) :
    Calls Try.prog 20 #[.agg #[.slice mo mn mc, .slice ro rn rc], .int .i64 sz, .int .i64 al, .int .i64 lo, .int .i64 hi, .bool down] w fun e w' => AllocEnd w w' M R sz (bestK (freeH M R) sz al lo down (places sz lo hi)) e ∧ Below w.heap.size w w' := by
  have e1 : inB sz 1 256 = true := inB_t (by omega)
  have e2 : inB al 1 256 = true := inB_t (by omega)
  have e3 : inB lo 0 256 = true := inB_t (by omega)
  have e4 : inB hi lo 256 = true := inB_t (by omega)
  have al0 : ((al : Int) == 0) = false := by simp; omega
  have I0 := alInv_first w mo mn mc M ro rn rc R hm hr
  clear hm hr
  go_enter Try.func20, Try.ntmps20
  go_wp2_with fail
  go_at_call 24
  refine (bootMay_any _ mo mn mc M ro rn rc R I0.m I0.r).mono ?_
  rintro e w1 ⟨⟨b, rfl, hb⟩, hb1⟩
  have I1 := I0.step hb1
  have hbt : b = true := hb.2 hM
  subst hbt
  clear I0 hb hb1
  go_wp2_with (go_at_call 28; refine (in_any _ _ _ _).mono ?_; rintro e w' ⟨rfl, rfl⟩)
  clear e1 e2 e3 e4
  go_loopw [15, 16] (fun bv pv wr => ∃ (j p : Nat) (B : Int), Hid (p = lo + j) ∧ j ≤ places sz lo hi ∧ Hid (B = bestK (freeH M R) sz al lo down j) ∧ pv = .int .i64 p ∧ bv = .int .i64 B ∧ AlInv w mo mn mc M ro rn rc R wr) (fun _ pv _ => lo + places sz lo hi - (intOf pv).toNat)
  case atStart => exact ⟨0, lo, -1, rfl, Nat.zero_le _, rfl, rfl, rfl, I1⟩
  case round =>
    obtain ⟨j, p, B, hp, hj, hB, rfl, rfl, I⟩ := hrel
    have hpj := hp.out
    have hpl : places sz lo hi = hi + 1 - (lo + sz) := rfl
    by_cases hlt : j < places sz lo hi
    · have hfit : (p : Int) + sz ≤ hi := by omega
      have hp1 : Hid (p + 1 = lo + (j + 1)) := by show p + 1 = lo + (j + 1); omega
      have hmeas : p + 1 ≤ lo + places sz lo hi := by omega
      obtain ⟨b0, hb0⟩ : ∃ b0 : Bool, ((p : Int) % (al : Int) == 0) = b0 := ⟨_, rfl⟩
      have Hb0 : Hid (b0 = decide (p % al = 0)) := by
        show b0 = _
        rw [← hb0]
        have e : ((p : Int) % (al : Int)) = ((p % al : Nat) : Int) := by simp
        rw [e]
        by_cases g : p % al = 0
        · simp [g]
        · rw [decide_eq_false g]; exact beq_eq_false_iff_ne.2 (by omega)
      obtain ⟨Q, hQ1, hQ2⟩ : ∃ Q : Nat, Q ≤ p + sz ∧ p + sz ≤ Q := ⟨_, Nat.le_refl _, Nat.le_refl _⟩
      clear hpj hpl I1
      go_wp2
      go_loopw [17, 18] (fun ov kv wr2 => ∃ (c k : Nat) (ok : Bool), Hid (k = p + c) ∧ k ≤ Q ∧ Hid (ok = (b0 && allF (freeH M R) p c)) ∧ kv = .int .i64 k ∧ ov = .bool ok ∧ AlInv w mo mn mc M ro rn rc R wr2) (fun _ kv _ => Q - (intOf kv).toNat)
      case atStart => exact ⟨0, p, b0, rfl, by omega, by show b0 = _; simp [allF], rfl, rfl, I⟩
      case round =>
        obtain ⟨c, k, ok, hk, hkQ, hOK0, rfl, rfl, I2⟩ := hrel
        have hkc := hk.out
        by_cases hc : k < Q
        · have hc' : (k : Int) < p + sz := by omega
          cases ok with
          | false =>
            have hOK : Hid (false = okAt (freeH M R) sz al p) := by
              show false = _
              unfold okAt
              rw [← Hb0.out]
              have := hOK0.out
              cases hbb : b0 with
              | false => rfl
              | true => rw [hbb] at this; simp only [Bool.true_and] at this ⊢; exact (allF_false this.symm (by omega)).symm
            clear hOK0 hk hkc Hb0
            have HN : Hid (B = bestK (freeH M R) sz al lo down (j + 1)) := by
              show B = _
              rw [bestK, if_neg (fun g => by rw [← hp.out, ← hOK.out] at g; cases g.1)]
              exact hB.out
            clear hB hOK
            go_wp2
            go_roundw
            case rel => exact ⟨j + 1, p + 1, B, hp1, by omega, HN, by go_num, rfl, I2⟩
            case measure => simp [intOf]; omega
          | true =>
            have c0 := I2.c0
            have hm2 := I2.m
            have hm40 : mn ≤ 40 := by have := hM.1.len; have := hm2.len; omega
            have hA : Hid (b0 = true ∧ allF (freeH M R) p c = true) := by
              have := hOK0.out
              show _ ∧ _
              cases b0 with
              | false => cases this
              | true => exact ⟨rfl, by simpa using this.symm⟩
            have hck : Hid ((p : Int) + c = k) := by show _ = _; omega
            have hk' : Hid (k + 1 = p + (c + 1)) := by show _ = _; omega
            clear hOK0 hkc hk
            go_wp2_with fail
            go_at_call 29
            refine (inR_any _ mo mn mc M hm2.len hm40 hm2.at_ hM.1.ok k).mono ?_
            rintro e w3 ⟨rfl, hd3⟩
            have hb3 : Below wr.heap.size wr w3 := by obtain ⟨d, rfl⟩ := hd3; exact below_drawn d
            have I3 := I2.step hb3
            clear I2 hm2 c0 hd3 hb3
            by_cases hin : inL M k = true
            · have c1 := I3.c1
              have hr3 := I3.r
              have hr40 : rn ≤ 40 := by have := hM.2.len; have := hr3.len; omega
              go_wp2_with fail
              go_at_call 29
              refine (inR_any _ ro rn rc R hr3.len hr40 hr3.at_ hM.2.ok k).mono ?_
              rintro e w4 ⟨rfl, hd4⟩
              have hb4 : Below w3.heap.size w3 w4 := by obtain ⟨d, rfl⟩ := hd4; exact below_drawn d
              have I4 := I3.step hb4
              have HOK' : Hid ((!inL R k) = (b0 && allF (freeH M R) p (c + 1))) := by
                show _ = _
                rw [allF, hA.out.1, hA.out.2, hck.out]
                simp [freeH, hin]
              clear I3 hr3 c1 hd4 hb4 hA
              go_wp2
              go_roundw
              case rel => exact ⟨c + 1, k + 1, _, hk', by omega, HOK', by go_num, rfl, I4⟩
              case measure => simp [intOf]; omega
            · have hin' : inL M k = false := by simpa using hin
              have HOK' : Hid (false = (b0 && allF (freeH M R) p (c + 1))) := by
                show _ = _
                rw [allF, hA.out.1, hA.out.2, hck.out]
                simp [freeH, hin']
              clear hA hin
              go_wp2
              go_roundw
              case rel => exact ⟨c + 1, k + 1, _, hk', by omega, HOK', by go_num, rfl, I3⟩
              case measure => simp [intOf]; omega
        · have hc' : ¬ (k : Int) < p + sz := by omega
          have hcs : c = sz := by omega
          have hOK : Hid (ok = okAt (freeH M R) sz al p) := by
            show ok = _
            unfold okAt
            rw [hOK0.out, Hb0.out, hcs]
          clear hOK0 hk hkc Hb0 hcs
          cases ok with
          | false =>
            have HN : Hid (B = bestK (freeH M R) sz al lo down (j + 1)) := by
              show B = _
              rw [bestK, if_neg (fun g => by rw [← hp.out, ← hOK.out] at g; cases g.1)]
              exact hB.out
            clear hB hOK
            go_wp2
            go_roundw
            case rel => exact ⟨j + 1, p + 1, B, hp1, by omega, HN, by go_num, rfl, I2⟩
            case measure => simp [intOf]; omega
          | true =>
            by_cases hneg : B < 0
            · have HN : Hid ((p : Int) = bestK (freeH M R) sz al lo down (j + 1)) := by
                show (p : Int) = _
                rw [bestK, if_pos ⟨by rw [← hp.out, ← hOK.out], Or.inl (by rw [← hB.out]; exact hneg)⟩, ← hp.out]
              clear hB hOK
              go_wp2
              go_roundw
              case rel => exact ⟨j + 1, p + 1, p, hp1, by omega, HN, by go_num, rfl, I2⟩
              case measure => simp [intOf]; omega
            · cases down with
              | true =>
                have HN : Hid ((p : Int) = bestK (freeH M R) sz al lo true (j + 1)) := by
                  show (p : Int) = _
                  rw [bestK, if_pos ⟨by rw [← hp.out, ← hOK.out], Or.inr rfl⟩, ← hp.out]
                clear hB hOK
                go_wp2
                go_roundw
                case rel => exact ⟨j + 1, p + 1, p, hp1, by omega, HN, by go_num, rfl, I2⟩
                case measure => simp [intOf]; omega
              | false =>
                have HN : Hid (B = bestK (freeH M R) sz al lo false (j + 1)) := by
                  show B = _
                  rw [bestK, if_neg (fun g => by rcases g.2 with g | g; · exact hneg (by rw [hB.out]; exact g)
                                                 · cases g)]
                  exact hB.out
                clear hB hOK
                go_wp2
                go_roundw
                case rel => exact ⟨j + 1, p + 1, B, hp1, by omega, HN, by go_num, rfl, I2⟩
                case measure => simp [intOf]; omega
    · have hfit : ¬ (p : Int) + sz ≤ hi := by omega
      have hjp : j = places sz lo hi := by omega
      have hpb : p ≤ 257 := by omega
      have hBB : B = bestK (freeH M R) sz al lo down (places sz lo hi) := by rw [← hjp]; exact hB.out
      have HBB : Hid (B = bestK (freeH M R) sz al lo down (places sz lo hi)) := hBB
      have hspec := bestK_spec (freeH M R) sz al lo down (places sz lo hi)
      rw [← hBB] at hspec
      have hcase : Hid (B < 0 ∨ (0 ≤ B ∧ regOk (B, (sz : Int)))) := by
        rcases hspec with ⟨g, _⟩ | ⟨i, hi', g, _⟩
        · left; omega
        · right
          refine ⟨by omega, ?_⟩
          show 0 ≤ B ∧ B ≤ 255 ∧ 1 ≤ (sz : Int) ∧ (sz : Int) ≤ 256 ∧ B + sz ≤ 256
          omega
      clear hspec hBB hjp hB hp hpj hpl hj I1 hlt
      rcases hcase.out with hneg | ⟨hpos, hok⟩
      · obtain ⟨⟨x0, d0⟩, ⟨x1, d1⟩, z0, z1⟩ := I.res
        have hBw := I.b
        clear I hcase hM
        go_wp2
        obtain ⟨k0, k1⟩ := res2 d0 d1 (.slice none 0 0) (.slice none 0 0)
        refine bodyPost_ret (v := .tuple #[.agg #[.slice none 0 0, .slice none 0 0], .int .i64 0, .int .i64 6]) (by simp [results, Try.results20, go_sem, k0, k1]) rfl ⟨?_, below2 hBw (by omega) _ _⟩
        rw [← HBB.out]
        exact Or.inl ⟨hneg, rfl⟩
      · have c0 := I.c0
        have c1 := I.c1
        have hneg : ¬ B < 0 := by omega
        clear hcase
        obtain ⟨D, hD⟩ : ∃ D, drawnAll (chH B sz true R) = D := ⟨_, rfl⟩
        have HD : Hid (drawnAll (chH B sz true R) = D) := hD
        clear hD
        by_cases hl : 40 < D.length
        · have HC := changedOf_size_true _ mo mn mc M ro rn rc R B sz true I.m I.r hM hok (by rw [HD.out]; exact hl)
          go_wp2_with fail
          go_at_call 11
          refine HC.mono ?_
          rintro e w3 ⟨rfl, hb3⟩
          have I3 := (I.step hb3).step (below_box w3 (.cells #[.slice none 0 0, .slice none 0 0] 24))
          obtain ⟨⟨x0, d0⟩, ⟨x1, d1⟩, z0, z1⟩ := I3.res
          have hBw := I3.b
          clear I I3 HC hM c0 c1 hok hb3
          go_wp2
          obtain ⟨k0, k1⟩ := res2 d0 d1 (.slice none 0 0) (.slice none 0 0)
          refine bodyPost_ret (v := .tuple #[.agg #[.slice none 0 0, .slice none 0 0], .int .i64 0, .int .i64 9]) (by simp [results, Try.results20, go_sem, k0, k1]) rfl ⟨?_, below2 hBw (by omega) _ _⟩
          rw [← HBB.out]
          exact Or.inr (Or.inl ⟨hpos, by rw [HD.out]; exact hl, rfl⟩)
        · have HC := changedOf_ok_true _ mo mn mc M ro rn rc R B sz true I.m I.r hM hok (by rw [HD.out]; omega)
          rw [HD.out] at HC
          have hsz := I.size
          go_wp2_with fail
          go_at_call 11
          refine HC.mono ?_
          rintro e w3 ⟨m1, n1, c1', r1, n2, c2, rfl, g1, g2, f1, f2, hb3⟩
          have hbx := below_box w3 (.cells #[.slice m1 n1 c1', .slice r1 n2 c2] 24)
          have I3 := (I.step hb3).step hbx
          have g1' := g1.below hbx
          have g2' := g2.below hbx
          have y0 : (w3.alloc (.cells #[.slice m1 n1 c1', .slice r1 n2 c2] 24)).cell? ⟨w3.heap.size, 0, none⟩ = some (.slice m1 n1 c1') := by go_simp
          have y1 : (w3.alloc (.cells #[.slice m1 n1 c1', .slice r1 n2 c2] 24)).cell? ⟨w3.heap.size, 1, none⟩ = some (.slice r1 n2 c2) := by go_simp
          obtain ⟨⟨x0, d0⟩, ⟨x1, d1⟩, z0, z1⟩ := I3.res
          have hBw := I3.b
          clear I I3 HC hM c0 c1 hok hb3 hbx g1 g2
          go_wp2
          obtain ⟨k0, k1⟩ := res2 d0 d1 (.slice m1 n1 c1') (.slice r1 n2 c2)
          refine bodyPost_ret (v := .tuple #[.agg #[.slice m1 n1 c1', .slice r1 n2 c2], .int .i64 B, .int .i64 0]) (by simp [results, Try.results20, go_sem, k0, k1]) rfl ⟨?_, below2 hBw (by omega) _ _⟩
          rw [← HBB.out]
          refine Or.inr (Or.inr ⟨hpos, by rw [HD.out]; omega, m1, n1, c1', r1, n2, c2, rfl, ?_, ?_, fun a ha => ?_, fun a ha => ?_⟩)
          · exact regs_set2 g1' (fun a ha => by have := f1 a ha; omega) _ _
          · rw [HD.out]; exact regs_set2 g2' (fun a ha => by have := f2 a ha; omega) _ _
          · have := f1 a ha; omega
          · have := f2 a ha; omega

end Go.Proofs.Ytfogdgnlbgoakac
