/-
  OWN TEXT. Contracts of the code: the marks' find, within.
-/
import Derived.Test.YtfogdgnlbgoakadBcMarks
import Derived.Test.YtfogdgnlbgoakadBPure
namespace Go.Proofs.Ytfogdgnlbgoakad
open Go Go.RowKit Go.Proofs.Ytfogdgnlbgoakad.Kit

/-- What find answers. -/
def foundV (B : Int) : Int := if B < 0 then 0 else B
def foundB (B : Int) : Bool := decide (0 ≤ B)

theorem best_keep {h : Int → Bool} {sz al lo : Nat} {j : Nat} (hj : 0 ≤ bestK h sz al lo false j) (n : Nat) : bestK h sz al lo false (j + n) = bestK h sz al lo false j := by
  induction n with
  | zero => rfl
  | succ n ih =>
    show (if okAt h sz al (lo + (j + n)) = true ∧ (bestK h sz al lo false (j + n) < 0 ∨ false = true) then ((lo + (j + n) : Nat) : Int) else bestK h sz al lo false (j + n)) = _
    rw [ih, if_neg]
    rintro ⟨_, g | g⟩
    · omega
    · cases g

theorem best_none {h : Int → Bool} {sz al lo j : Nat} {down : Bool} (hb : bestK h sz al lo down j < 0) : bestK h sz al lo down j = -1 := by
  rcases bestK_spec h sz al lo down j with ⟨e, _⟩ | ⟨i, _, e, _⟩
  · exact e
  · rw [e] at hb; omega

set_option maxHeartbeats 4000000 in
set_option maxRecDepth 4000 in
theorem bfind_any (w : World) (b : Nat) (h : Int → Bool) (sz al lo hi : Nat) (down : Bool) (hm : MarksAt w b 51 h) (h1 : 1 ≤ sz) (h2 : sz ≤ 256) (h3 : 1 ≤ al) (h4 : al ≤ 256) (_h5 : lo ≤ hi) (h6 : hi ≤ 256) :
    Calls Try.prog 27 #[.pointer (some ⟨b, 0, none⟩), .int .i64 sz, .int .i64 al, .int .i64 lo, .int .i64 hi, .bool down] w fun e w' => e = .returned (.tuple #[.int .i64 (foundV (bestK h sz al lo down (places sz lo hi))), .bool (foundB (bestK h sz al lo down (places sz lo hi)))]) ∧ w = w' := by
  obtain ⟨V, hV⟩ : ∃ V, foundV (bestK h sz al lo down (places sz lo hi)) = V := ⟨_, rfl⟩
  obtain ⟨O, hO⟩ : ∃ O, foundB (bestK h sz al lo down (places sz lo hi)) = O := ⟨_, rfl⟩
  rw [hV, hO]
  have HV : Hid _ := hV
  have HO : Hid _ := hO
  clear hV hO
  have al0 : ((al : Int) == 0) = false := by simp; omega
  go_enter Try.func27, Try.ntmps27
  go_wp2
  go_loopw [14, 15, 16] (fun fv ov pv wr => ∃ (j p : Nat) (B : Int), Hid (p = lo + j) ∧ j ≤ places sz lo hi ∧ Hid (bestK h sz al lo down j = B) ∧ Hid (down = false → B < 0) ∧ fv = .int .i64 (foundV B) ∧ ov = .bool (foundB B) ∧ pv = .int .i64 p ∧ w = wr) (fun _ _ pv _ => lo + places sz lo hi - (intOf pv).toNat)
  case atStart => exact ⟨0, lo, -1, rfl, Nat.zero_le _, rfl, fun _ => by omega, rfl, rfl, rfl, rfl⟩
  case round =>
    obtain ⟨j, p, B, hp, hj, hB, hD, rfl, rfl, rfl, rfl⟩ := hrel
    have hpj := hp.out
    have hpl : places sz lo hi = hi + 1 - (lo + sz) := rfl
    by_cases hlt : j < places sz lo hi
    · have hfit : (p : Int) ≤ hi - sz := by omega
      have hp1 : Hid (p + 1 = lo + (j + 1)) := by show p + 1 = lo + (j + 1); omega
      have hmeas : p + 1 ≤ lo + places sz lo hi := by omega
      have hps : p + sz ≤ 256 := by omega
      obtain ⟨b0, hb0⟩ : ∃ b0 : Bool, ((p : Int) % (al : Int) == 0) = b0 := ⟨_, rfl⟩
      have Hb0 : Hid (b0 = decide (p % al = 0)) := by
        show b0 = _
        rw [← hb0]
        have e : ((p : Int) % (al : Int)) = ((p % al : Nat) : Int) := by simp
        rw [e]
        by_cases g : p % al = 0
        · simp [g]
        · rw [decide_eq_false g]; exact beq_eq_false_iff_ne.2 (by omega)
      have hno : Hid (okAt h sz al p = false → bestK h sz al lo down (j + 1) = B) := fun g => by
        rw [bestK, if_neg (fun g' => by rw [← hp.out, g] at g'; cases g'.1)]
        exact hB.out
      have hyes : Hid (okAt h sz al p = true → bestK h sz al lo down (j + 1) = (p : Int)) := fun g => by
        have hor : bestK h sz al lo down j < 0 ∨ down = true := by
          rw [hB.out]
          cases hdd : down with
          | true => exact Or.inr rfl
          | false => exact Or.inl (hD.out hdd)
        rw [bestK, if_pos ⟨by rw [← hp.out]; exact g, hor⟩, ← hp.out]
      clear hpj hpl
      cases b0 with
      | false =>
        have HN : Hid (bestK h sz al lo down (j + 1) = B) := hno.out (by unfold okAt; rw [← Hb0.out]; rfl)
        have hne : ¬ (p : Int) % (al : Int) = 0 := fun g => by rw [g] at hb0; cases hb0
        clear hno hyes Hb0 hB hb0
        go_wp2
        go_roundw
        case rel => exact ⟨j + 1, p + 1, B, hp1, by omega, HN, hD, rfl, rfl, by go_num, trivial⟩
        case measure => simp [intOf]; omega
      | true =>
        have heq : (p : Int) % (al : Int) = 0 := eq_of_beq hb0
        clear hb0
        go_wp2_with fail
        go_at_call 36
        refine (ball_any w b h p sz hm hps).mono ?_
        rintro e w1 ⟨rfl, rfl⟩
        obtain ⟨q, hq⟩ : ∃ q, allF h p sz = q := ⟨_, rfl⟩
        rw [hq]
        have HQ : Hid (okAt h sz al p = q) := by show _ = _; unfold okAt; rw [← Hb0.out, hq]; rfl
        clear hq Hb0
        cases q with
        | false =>
          have HN : Hid (bestK h sz al lo down (j + 1) = B) := hno.out HQ.out
          clear hno hyes hB HQ
          go_wp2
          go_roundw
          case rel => exact ⟨j + 1, p + 1, B, hp1, by omega, HN, hD, rfl, rfl, by go_num, trivial⟩
          case measure => simp [intOf]; omega
        | true =>
          have HN : Hid (bestK h sz al lo down (j + 1) = (p : Int)) := hyes.out HQ.out
          clear hno hyes hB HQ
          cases hdd : down with
          | true =>
            subst hdd
            go_wp2
            go_roundw
            case rel => exact ⟨j + 1, p + 1, (p : Int), hp1, by omega, HN, (fun g => by cases g), by unfold foundV; rw [if_neg (by omega)], by unfold foundB; rw [decide_eq_true (by omega)], by go_num, trivial⟩
            case measure => simp [intOf]; omega
          | false =>
            subst hdd
            have hfin : bestK h sz al lo false (places sz lo hi) = (p : Int) := by
              obtain ⟨n, hn⟩ : ∃ n, places sz lo hi = (j + 1) + n := ⟨places sz lo hi - (j + 1), by omega⟩
              rw [hn, best_keep (by rw [HN.out]; omega), HN.out]
            have HV' : Hid ((p : Int) = V) := by
              have := HV.out
              rw [hfin] at this
              unfold foundV at this
              rw [if_neg (by omega)] at this
              exact this
            have HO' : Hid (true = O) := by
              have := HO.out
              rw [hfin] at this
              unfold foundB at this
              rw [decide_eq_true (by omega)] at this
              exact this
            clear hfin HN HV HO hD
            go_wp2
            go_ret2
            have e1 := HV'.out
            have e2 := HO'.out
            subst e1 e2
            exact ⟨rfl, rfl⟩
    · have hj2 : j = places sz lo hi := by omega
      have hfit : ¬ (p : Int) ≤ hi - sz := by omega
      have hBe : bestK h sz al lo down (places sz lo hi) = B := by rw [← hj2]; exact hB.out
      have HV' : Hid (foundV B = V) := by have := HV.out; rw [hBe] at this; exact this
      have HO' : Hid (foundB B = O) := by have := HO.out; rw [hBe] at this; exact this
      clear hBe hB HV HO hD hj2 hpl hpj hp
      go_wp2
      go_ret2
      have e1 := HV'.out
      have e2 := HO'.out
      subst e1 e2
      exact ⟨rfl, rfl⟩

end Go.Proofs.Ytfogdgnlbgoakad
