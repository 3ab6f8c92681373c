/-
  OWN TEXT. Contracts of ram.Follow.
-/
import Derived.Test.YtlbilifiehddbabRamA
namespace Go.Proofs.Ytlbilifiehddbab
open Go Go.RowKit Go.Proofs.Ytlbilifiehddbab.Kit

/-- The chain from 'a' on, of at most m addresses. -/
def fol (xs : List Int) : Nat → Int → Option (List Int)
  | 0, a => if a = -1 then some [] else none
  | m + 1, a => if a = -1 then some [] else if 0 ≤ a ∧ a < xs.length then (fol xs m (xs.getD a.toNat 0)).map (a :: ·) else none

theorem fol_end (xs : List Int) (m : Nat) : fol xs m (-1) = some [] := by cases m <;> simp [fol]
theorem fol_full (xs : List Int) (a : Int) (h : a ≠ -1) : fol xs 0 a = none := by simp [fol, h]
theorem fol_out (xs : List Int) (m : Nat) (a : Int) (h : a ≠ -1) (h' : ¬ (0 ≤ a ∧ a < xs.length)) : fol xs m a = none := by
  cases m
  · simp [fol, h]
  · simp only [fol]; rw [if_neg h, if_neg h']
theorem fol_step (xs : List Int) (m k : Nat) (h' : k < xs.length) : fol xs (m + 1) k = (fol xs m (xs.getD k 0)).map ((k : Int) :: ·) := by
  simp only [fol]; rw [if_neg (by omega), if_pos (by omega)]; rfl

theorem fol_map_nil (r : Option (List Int)) : r = r.map ([] ++ ·) := by cases r <;> rfl
theorem fol_map_snoc {r : Option (List Int)} {L : List Int} {b : Int} : (r.map (b :: ·)).map (L ++ ·) = r.map ((L ++ [b]) ++ ·) := by cases r <;> simp

/-- The number of elements of a slice, for a measure. -/
def lenV : Value → Nat | .slice _ n _ => n | _ => 0

theorem follow_neg (w : World) (ao : Option Addr) (n cap : Nat) (a most : Int) (h : most < 0) :
    Calls Try.prog 15 #[.slice ao n cap, .int .i64 a, .int .i64 most] w fun e w' => e = .returned (.tuple #[.slice none 0 0, .int .i64 8]) ∧ w = w' := by
  go_enter Try.func15, Try.ntmps15
  go_wp2
  go_ret2
  exact ⟨rfl, rfl⟩

/-- What Follow answers, most not below 0: M is the less of most and the number of words. -/
def FolEnd (w w' : World) (r : Option (List Int)) (e : Ending) : Prop :=
  match r with
  | none => e = .returned (.tuple #[.slice none 0 0, .int .i64 8])
  | some l => ∃ bo c, e = .returned (.tuple #[.slice bo l.length c, .int .i64 0]) ∧ w'.ownsRow w.heap.size 3 1 (.slice bo l.length c) l.length (vals l)

set_option maxHeartbeats 1000000 in
theorem follow_great (w : World) (ao : Option Addr) (n cap : Nat) (a : Int) (most : Nat) (xs : List Int) (hn : xs.length = n) (hr : n * 8 ≤ 140737488351232) (hx : IntsAt w ao xs) (hlt : n < most) :
    Calls Try.prog 15 #[.slice ao n cap, .int .i64 a, .int .i64 most] w fun e w' => FolEnd w w' (fol xs n a) e ∧ Below w.heap.size w w' := by
  obtain ⟨i0, hi, hz0, hz1, hz2⟩ := info_parts info_int
  have hMn : n ≤ n := by omega
  have hp : ¬ (most : Int) < 0 := by omega
  go_enter Try.func15, Try.ntmps15
  go_wp2
  go_loopw [8, 9] (fun v av wr => ∃ (k c : Nat) (bo : Option Addr) (L : List Int) (b : Int), k ≤ n ∧ v = .slice bo k c ∧ av = .int .i64 b ∧ wr.ownsRow w.heap.size 3 1 (.slice bo k c) k (vals L) ∧ Below w.heap.size w wr ∧ Hid (fol xs n a = (fol xs (n - k) b).map (L ++ ·))) (fun v _ _ => n - lenV v)
  case atStart => exact ⟨0, 0, none, [], a, Nat.zero_le _, rfl, rfl, World.ownsRow_nil _ _ _ _, Below.refl _ _, fol_map_nil _⟩
  case round =>
    obtain ⟨k, c, bo, L, b, hk, rfl, rfl, hown, hb, hF⟩ := hrel
    have hs := hb.size
    by_cases h1 : b = -1
    · subst h1
      go_wp2
      go_ret2
      rw [hF.out, fol_end]
      have hl := owns_len hown
      refine ⟨⟨bo, c, ?_, ?_⟩, hb⟩
      · simp [hl]
      · simpa [hl] using hown
    · have h1' : (b != -1) = true := by simpa using h1
      by_cases h2 : k = n
      · have h2' : ((k : Int) == (n : Int)) = true := by simp; omega
        have hN : Hid (fol xs n a = none) := by show _ = _; rw [hF.out, h2, Nat.sub_self, fol_full _ _ h1]; rfl
        clear h2 hF hown
        go_wp2
        go_ret2
        rw [hN.out]
        exact ⟨rfl, hb⟩
      · have h2' : ((k : Int) == (n : Int)) = false := by simp; omega
        by_cases h3 : 0 ≤ b ∧ b < n
        · obtain ⟨j, rfl⟩ : ∃ j : Nat, b = j := ⟨b.toNat, by omega⟩
          have hI : addrB n j = true := addrB_t h3
          have hj : j < n := by omega
          have hml : k + 1 ≤ maxLen := by unfold maxLen; omega
          have hkM : k + 1 ≤ n := by omega
          have hE : Hid (fol xs n a = (fol xs (n - (k + 1)) (xs.getD j 0)).map ((L ++ [(j : Int)]) ++ ·)) := by
            have e0 : n - k = (n - (k + 1)) + 1 := by omega
            show _ = _
            rw [hF.out, e0, fol_step _ _ _ (by omega), fol_map_snoc]
          clear h1 h2 h3 hF
          go_wp2_with (first | (go_at_call 16; refine (isAddr_any _ _ _ _ _).mono ?_; rintro e w' ⟨rfl, rfl⟩) | (at_builtin; refine wpList_append_own _ rfl (.tmp 33) (.tmp 35) 22 rfl w.heap.size 3 i0 (.int .i64 0) 1 8 Try.underlying22 hi hz0 hz1 hz2 rfl (by decide) _ _ _ rfl (hown.alloc _) ⟨wr.heap.size, 0, none⟩ 1 1 [.int .i64 j] rfl rfl ?c1 ?c2 hml ?c4 ?c5 ?_))
          case c1 => exact cell_one_new' _ _ _
          case c2 => exact ints_oneCell .i64 [_]
          case c4 => omega
          case c5 => simp; omega
          intro v' w1 hown' hgrow _
          have hb' : Below w.heap.size w w1 := (hb.alloc hs _).grown hgrow (by simp; omega) (fun g hg => (hown.lt g hg).1)
          obtain ⟨b', o', x, rfl, cc, hX⟩ := (hx.below hb').at j (by omega)
          have hO : w1.ownsRow w.heap.size 3 1 v' (k + 1) (vals (L ++ [(j : Int)])) := by rw [vals_append]; exact hown'
          obtain ⟨bo', c', rfl⟩ := owns_shape hO
          rw [hX.out] at hE
          clear hown hown' hgrow hb hx
          go_wp2
          go_roundw
          case rel => exact ⟨k + 1, c', bo', _, x, by omega, rfl, rfl, hO, hb', hE⟩
          case measure => simp [lenV]; omega
        · have hI : addrB n b = false := addrB_f h3
          have hN : Hid (fol xs n a = none) := by show _ = _; rw [hF.out, fol_out _ _ _ h1 (by omega)]; rfl
          clear h2 h3 hF hown
          go_wp2_with (go_at_call 16; refine (isAddr_any _ _ _ _ _).mono ?_; rintro e w' ⟨rfl, rfl⟩)
          go_ret2
          rw [hN.out]
          exact ⟨rfl, hb⟩

set_option maxHeartbeats 1000000 in
theorem follow_small (w : World) (ao : Option Addr) (n cap : Nat) (a : Int) (most : Nat) (xs : List Int) (hn : xs.length = n) (hr : n * 8 ≤ 140737488351232) (hx : IntsAt w ao xs) (hlt : ¬ n < most) :
    Calls Try.prog 15 #[.slice ao n cap, .int .i64 a, .int .i64 most] w fun e w' => FolEnd w w' (fol xs most a) e ∧ Below w.heap.size w w' := by
  obtain ⟨i0, hi, hz0, hz1, hz2⟩ := info_parts info_int
  have hMn : most ≤ n := by omega
  have hp : ¬ (most : Int) < 0 := by omega
  go_enter Try.func15, Try.ntmps15
  go_wp2
  go_loopw [8, 9] (fun v av wr => ∃ (k c : Nat) (bo : Option Addr) (L : List Int) (b : Int), k ≤ most ∧ v = .slice bo k c ∧ av = .int .i64 b ∧ wr.ownsRow w.heap.size 3 1 (.slice bo k c) k (vals L) ∧ Below w.heap.size w wr ∧ Hid (fol xs most a = (fol xs (most - k) b).map (L ++ ·))) (fun v _ _ => most - lenV v)
  case atStart => exact ⟨0, 0, none, [], a, Nat.zero_le _, rfl, rfl, World.ownsRow_nil _ _ _ _, Below.refl _ _, fol_map_nil _⟩
  case round =>
    obtain ⟨k, c, bo, L, b, hk, rfl, rfl, hown, hb, hF⟩ := hrel
    have hs := hb.size
    by_cases h1 : b = -1
    · subst h1
      go_wp2
      go_ret2
      rw [hF.out, fol_end]
      have hl := owns_len hown
      refine ⟨⟨bo, c, ?_, ?_⟩, hb⟩
      · simp [hl]
      · simpa [hl] using hown
    · have h1' : (b != -1) = true := by simpa using h1
      by_cases h2 : k = most
      · have h2' : ((k : Int) == (most : Int)) = true := by simp; omega
        have hN : Hid (fol xs most a = none) := by show _ = _; rw [hF.out, h2, Nat.sub_self, fol_full _ _ h1]; rfl
        clear h2 hF hown
        go_wp2
        go_ret2
        rw [hN.out]
        exact ⟨rfl, hb⟩
      · have h2' : ((k : Int) == (most : Int)) = false := by simp; omega
        by_cases h3 : 0 ≤ b ∧ b < n
        · obtain ⟨j, rfl⟩ : ∃ j : Nat, b = j := ⟨b.toNat, by omega⟩
          have hI : addrB n j = true := addrB_t h3
          have hj : j < n := by omega
          have hml : k + 1 ≤ maxLen := by unfold maxLen; omega
          have hkM : k + 1 ≤ most := by omega
          have hE : Hid (fol xs most a = (fol xs (most - (k + 1)) (xs.getD j 0)).map ((L ++ [(j : Int)]) ++ ·)) := by
            have e0 : most - k = (most - (k + 1)) + 1 := by omega
            show _ = _
            rw [hF.out, e0, fol_step _ _ _ (by omega), fol_map_snoc]
          clear h1 h2 h3 hF
          go_wp2_with (first | (go_at_call 16; refine (isAddr_any _ _ _ _ _).mono ?_; rintro e w' ⟨rfl, rfl⟩) | (at_builtin; refine wpList_append_own _ rfl (.tmp 33) (.tmp 35) 22 rfl w.heap.size 3 i0 (.int .i64 0) 1 8 Try.underlying22 hi hz0 hz1 hz2 rfl (by decide) _ _ _ rfl (hown.alloc _) ⟨wr.heap.size, 0, none⟩ 1 1 [.int .i64 j] rfl rfl ?c1 ?c2 hml ?c4 ?c5 ?_))
          case c1 => exact cell_one_new' _ _ _
          case c2 => exact ints_oneCell .i64 [_]
          case c4 => omega
          case c5 => simp; omega
          intro v' w1 hown' hgrow _
          have hb' : Below w.heap.size w w1 := (hb.alloc hs _).grown hgrow (by simp; omega) (fun g hg => (hown.lt g hg).1)
          obtain ⟨b', o', x, rfl, cc, hX⟩ := (hx.below hb').at j (by omega)
          have hO : w1.ownsRow w.heap.size 3 1 v' (k + 1) (vals (L ++ [(j : Int)])) := by rw [vals_append]; exact hown'
          obtain ⟨bo', c', rfl⟩ := owns_shape hO
          rw [hX.out] at hE
          clear hown hown' hgrow hb hx
          go_wp2
          go_roundw
          case rel => exact ⟨k + 1, c', bo', _, x, by omega, rfl, rfl, hO, hb', hE⟩
          case measure => simp [lenV]; omega
        · have hI : addrB n b = false := addrB_f h3
          have hN : Hid (fol xs most a = none) := by show _ = _; rw [hF.out, fol_out _ _ _ h1 (by omega)]; rfl
          clear h2 h3 hF hown
          go_wp2_with (go_at_call 16; refine (isAddr_any _ _ _ _ _).mono ?_; rintro e w' ⟨rfl, rfl⟩)
          go_ret2
          rw [hN.out]
          exact ⟨rfl, hb⟩

theorem follow_any (w : World) (ao : Option Addr) (n cap : Nat) (a : Int) (most : Nat) (xs : List Int) (hn : xs.length = n) (hr : n * 8 ≤ 140737488351232) (hx : IntsAt w ao xs) :
    Calls Try.prog 15 #[.slice ao n cap, .int .i64 a, .int .i64 most] w fun e w' => FolEnd w w' (fol xs (min most n) a) e ∧ Below w.heap.size w w' := by
  by_cases h : n < most
  · rw [Nat.min_eq_right (by omega)]; exact follow_great w ao n cap a most xs hn hr hx h
  · rw [Nat.min_eq_left (by omega)]; exact follow_small w ao n cap a most xs hn hr hx h

theorem follow_none (w : World) (ao : Option Addr) (n cap : Nat) (a mi : Int) (most : Nat) (xs : List Int) (hmi : mi = most) (hn : xs.length = n) (hr : n * 8 ≤ 140737488351232) (hx : IntsAt w ao xs) (h : fol xs (min most n) a = none) :
    Calls Try.prog 15 #[.slice ao n cap, .int .i64 a, .int .i64 mi] w fun e w' => e = .returned (.tuple #[.slice none 0 0, .int .i64 8]) ∧ Below w.heap.size w w' := by
  subst hmi
  refine (follow_any w ao n cap a most xs hn hr hx).mono ?_
  rintro e w' ⟨h1, h2⟩
  rw [h] at h1
  exact ⟨h1, h2⟩

theorem follow_some (w : World) (ao : Option Addr) (n cap : Nat) (a mi : Int) (most : Nat) (xs l : List Int) (m : Nat) (hmi : mi = most) (hn : xs.length = n) (hr : n * 8 ≤ 140737488351232) (hx : IntsAt w ao xs) (h : fol xs (min most n) a = some l) (hm : l.length = m) :
    Calls Try.prog 15 #[.slice ao n cap, .int .i64 a, .int .i64 mi] w fun e w' => ∃ bo c, e = .returned (.tuple #[.slice bo m c, .int .i64 0]) ∧ w'.ownsRow w.heap.size 3 1 (.slice bo m c) m (vals l) ∧ Below w.heap.size w w' := by
  subst hmi
  subst hm
  refine (follow_any w ao n cap a most xs hn hr hx).mono ?_
  rintro e w' ⟨h1, h2⟩
  rw [h] at h1
  obtain ⟨bo, c, h1, h3⟩ := h1
  exact ⟨bo, c, h1, h3, h2⟩

end Go.Proofs.Ytlbilifiehddbab
