/-
  OWN TEXT. The walk of the law ChainFollows: it returns true and writes nothing that was there.
-/
import Derived.Test.YtlbilifiehddbabRamF
import Derived.Test.YtlbilifiehddbabRamN
import Derived.Test.YtlbilifiehddbabRamC
import Derived.Test.YtlbilifiehddbabPicked
namespace Go.Proofs.Ytlbilifiehddbab
open Go Go.RowKit Go.Proofs.Ytlbilifiehddbab.Kit

theorem mul_inj_lt {s i j : Nat} (hs : 1 ≤ s) (h : i < j) : s * i < s * j := Nat.mul_lt_mul_of_pos_left h (by omega)

/-- What is at the places of a chain's objects behind k links. -/
theorem chainK_at (xs : List Int) (a s : Nat) (hs : 1 ≤ s) (k i : Nat) (hi : i < k) (hl : a + s * k ≤ xs.length) : (chainK xs a s k).getD (a + s * i) 0 = (a + s * i + s : Nat) := by
  induction k with
  | zero => omega
  | succ k ih =>
    rw [Nat.mul_succ] at hl
    have hk := chainK_length xs a s k
    simp only [chainK, List.getD_eq_getElem?_getD, List.getElem?_set]
    by_cases h : i = k
    · subst h
      have hlt : a + s * i < xs.length := by omega
      simp [hk, hlt]
    · have h2 := mul_inj_lt hs (show i < k by omega)
      have := ih (by omega) (by omega)
      rw [List.getD_eq_getElem?_getD] at this
      rw [if_neg (by omega), this]

theorem chainL_link (xs : List Int) (a s n : Nat) (hs : 1 ≤ s) (i : Nat) (hi : i + 1 < n) (hl : a + s * n ≤ xs.length) : (chainL xs a s n).getD (a + s * i) 0 = (a + s * (i + 1) : Nat) := by
  obtain ⟨m, rfl⟩ : ∃ m, n = m + 1 := ⟨n - 1, by omega⟩
  rw [Nat.mul_succ] at hl
  have h2 := mul_inj_lt hs (show i < m by omega)
  have h := chainK_at xs a s hs m i (by omega) (by omega)
  rw [List.getD_eq_getElem?_getD] at h
  simp only [chainL, Nat.add_sub_cancel, List.getD_eq_getElem?_getD, List.getElem?_set]
  rw [if_neg (by omega), h, Nat.mul_succ]
  omega

theorem chainL_last (xs : List Int) (a s n : Nat) (hs : 1 ≤ s) (hn : 1 ≤ n) (hl : a + s * n ≤ xs.length) : (chainL xs a s n).getD (a + s * (n - 1)) 0 = -1 := by
  obtain ⟨m, rfl⟩ : ∃ m, n = m + 1 := ⟨n - 1, by omega⟩
  rw [Nat.mul_succ] at hl
  have hk := chainK_length xs a s m
  have hlt : a + s * m < xs.length := by omega
  simp [chainL, List.getD_eq_getElem?_getD, hk, hlt]

theorem chainL_length (xs : List Int) (a s n : Nat) : (chainL xs a s n).length = xs.length := by simp [chainL, chainK_length]

/-- The addresses of c objects of s words, from x on. -/
def addrs (s x : Nat) : Nat → List Int
  | 0 => []
  | c + 1 => (x : Int) :: addrs s (x + s) c

theorem addrs_length (s x c : Nat) : (addrs s x c).length = c := by
  induction c generalizing x with
  | zero => rfl
  | succ c ih => simp [addrs, ih]

theorem addrs_at (s x c i : Nat) (h : i < c) : (addrs s x c).getD i 0 = (x + i * s : Nat) := by
  induction c generalizing x i with
  | zero => omega
  | succ c ih =>
    cases i with
    | zero => simp [addrs]
    | succ i =>
      have := ih (x + s) i (by omega)
      rw [Nat.succ_mul]
      simp only [addrs, List.getD_cons_succ]
      rw [this]
      omega

theorem fol_chain_some (xs : List Int) (a s n : Nat) (hs : 1 ≤ s) (hl : a + s * n ≤ xs.length) (c : Nat) : ∀ i b, i + c + 1 = n → c + 1 ≤ b → fol (chainL xs a s n) b (a + s * i : Nat) = some (addrs s (a + s * i) (c + 1)) := by
  induction c with
  | zero =>
    intro i b hi hb
    obtain ⟨b, rfl⟩ : ∃ b', b = b' + 1 := ⟨b - 1, by omega⟩
    obtain rfl : i = n - 1 := by omega
    have hlt : s * (n - 1) < s * n := mul_inj_lt hs (by omega)
    rw [fol_step _ _ _ (by rw [chainL_length]; omega), chainL_last xs a s n hs (by omega) hl, fol_end]
    rfl
  | succ c ih =>
    intro i b hi hb
    obtain ⟨b, rfl⟩ : ∃ b', b = b' + 1 := ⟨b - 1, by omega⟩
    have hlt : s * i < s * n := mul_inj_lt hs (by omega)
    rw [fol_step _ _ _ (by rw [chainL_length]; omega), chainL_link xs a s n hs i (by omega) hl, ih (i + 1) b (by omega) (by omega)]
    rw [Nat.mul_succ, ← Nat.add_assoc]
    rfl

theorem fol_chain_none (xs : List Int) (a s n : Nat) (hs : 1 ≤ s) (hl : a + s * n ≤ xs.length) (b : Nat) : ∀ i, i + b < n → fol (chainL xs a s n) b (a + s * i : Nat) = none := by
  induction b with
  | zero => intro i _; exact fol_full _ _ (by omega)
  | succ b ih =>
    intro i hi
    have hlt : s * i < s * n := mul_inj_lt hs (by omega)
    rw [fol_step _ _ _ (by rw [chainL_length]; omega), chainL_link xs a s n hs i (by omega) hl, ih (i + 1) (by omega)]
    rfl

set_option maxHeartbeats 2000000 in
theorem chainFollows_walk (size n at_ : Int) (w : World) (wf0 : (Lit.int .i64 size).wf = true) (wf1 : (Lit.int .i64 n).wf = true) (wf2 : (Lit.int .i64 at_).wf = true) :
    Calls Try.prog 5 #[.int .i64 size, .int .i64 n, .int .i64 at_] w fun e w' => e = .returned (.bool true) ∧ Below w.heap.size w w' := by
  go_enter Try.func5, Try.ntmps5
  go_wp2_with fail
  go_at_call 7
  refine (new_ok w 8 (by omega)).mono ?_
  rintro e w1 ⟨rfl, hown1, hb1⟩
  go_wp2_with fail
  go_at_call 8
  refine (picked_any size 12 wf0 (by omega) (by omega) _).mono ?_
  rintro e w' ⟨⟨r, hr, rfl⟩, rfl⟩
  obtain ⟨s, hs⟩ : ∃ k : Nat, (1 : Int) + r = k := ⟨1 + r, by simp⟩
  have hs1 : 1 ≤ s := by omega
  have hs2 : s ≤ 12 := by omega
  go_wp2_with fail
  go_at_call 8
  refine (picked_any n 8 wf1 (by omega) (by omega) _).mono ?_
  rintro e w' ⟨⟨r2, hr2, rfl⟩, rfl⟩
  obtain ⟨m, hm⟩ : ∃ k : Nat, (1 : Int) + r2 = k := ⟨1 + r2, by simp⟩
  have hm1 : 1 ≤ m := by omega
  have hm2 : m ≤ 8 := by omega
  go_wp2_with fail
  go_at_call 8
  refine (picked_any at_ 20 wf2 (by omega) (by omega) _).mono ?_
  rintro e w' ⟨⟨a, ha, rfl⟩, rfl⟩
  have hsm : s * m ≤ 12 * 8 := Nat.mul_le_mul hs2 hm2
  have F : Fits 128 a s m (s * m) (s * (m - 1)) := fits_mk hs1 (by omega) hm1 (by omega) (by omega)
  have HL : Hid (a + s * m ≤ 128) := by show _ ≤ _; omega
  obtain ⟨q, hq⟩ : ∃ q, q = s * m := ⟨_, rfl⟩
  obtain ⟨p, hp⟩ : ∃ p, p = s * (m - 1) := ⟨_, rfl⟩
  rw [← hp, ← hq] at F
  have HP : Hid (p = s * (m - 1)) := hp
  have i1 := ints_of_owns hown1
  clear wf0 wf1 wf2 hp hq hsm
  go_wp2_with fail
  go_at_call 14
  refine (chain_yes w1 _ 128 128 a s m q p (List.replicate 128 0) (by simp) (by omega) i1 F HP).mono ?_
  rintro e w2 ⟨b2, c2, rfl, hown2, hb2⟩
  have i2 := ints_of_owns hown2
  have hl2 : (chainL (List.replicate 128 0) a s m).length = 128 := by rw [chainL_length]; simp
  have hf1 : fol (chainL (List.replicate 128 0) a s m) (min m 128) a = some (addrs s a m) := by
    have h := fol_chain_some (List.replicate 128 0) a s m hs1 (by simpa using HL.out) (m - 1) 0 (min m 128) (by omega) (by omega)
    have e1 : m - 1 + 1 = m := by omega
    simpa [e1] using h
  have hf2 : fol (chainL (List.replicate 128 0) a s m) (min (m - 1) 128) a = none := by
    have h := fol_chain_none (List.replicate 128 0) a s m hs1 (by simpa using HL.out) (min (m - 1) 128) 0 (by omega)
    simpa using h
  have HF1 : Hid _ := hf1
  have HF2 : Hid _ := hf2
  clear hf1 hf2
  go_wp2_with fail
  go_at_call 15
  refine (follow_some w2 _ 128 c2 a m m _ _ m rfl hl2 (by omega) i2 HF1.out (addrs_length _ _ _)).mono ?_
  rintro e w3 ⟨b3, c3, rfl, hown3, hb3⟩
  have i2' := i2.below hb3
  go_wp2_with fail
  go_at_call 15
  refine (follow_none w3 _ 128 c2 a _ (m - 1) _ (by omega) hl2 (by omega) i2' HF2.out).mono ?_
  rintro e w4 ⟨rfl, hb4⟩
  have i3 := (ints_of_owns hown3).below hb4
  have hB : Below w.heap.size w w4 := hb1.trans ((hb2.mono hb1.size).trans ((hb3.mono (Nat.le_trans hb1.size hb2.size)).trans (hb4.mono (Nat.le_trans hb1.size (Nat.le_trans hb2.size hb3.size)))))
  have HA := addrs_length s a m
  clear F i1 i2 i2' hl2 HF1 HF2 hown1 hown2 hown3 hb1 hb2 hb3 hb4
  go_wp2
  go_loopw [57] (fun t wr => ∃ i : Nat, i ≤ m ∧ t = .int .i64 i ∧ wr = w4) (fun t _ => m - (intOf t).toNat)
  case atStart => exact ⟨0, Nat.zero_le _, rfl, rfl⟩
  case round =>
    obtain ⟨i, hi, rfl, rfl⟩ := hrel
    by_cases hlt : i < m
    · obtain ⟨b, o, x, rfl, c, hX⟩ := i3.at i (by omega)
      obtain ⟨y, hy⟩ : ∃ y : Nat, y = i * s := ⟨_, rfl⟩
      have hyI : (i : Int) * (s : Int) = y := by rw [hy]; simp
      have hx : x = (a : Int) + y := by
        have h1 := hX.out
        rw [addrs_at _ _ _ _ hlt, ← hy] at h1
        rw [← h1]; simp
      have hy2 : y ≤ 8 * 12 := by rw [hy]; exact Nat.mul_le_mul (by omega) hs2
      subst hx
      clear hX hy HA i3
      go_wp2
      go_roundw
      case rel => exact ⟨i + 1, by omega, by go_num, by trivial⟩
      case measure => simp [intOf]; omega
    · go_wp2
      go_ret
      exact ⟨rfl, hB⟩

end Go.Proofs.Ytlbilifiehddbab
