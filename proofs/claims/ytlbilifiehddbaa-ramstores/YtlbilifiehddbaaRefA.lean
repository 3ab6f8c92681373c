/-
  OWN TEXT. Contracts of the document's answer: In, there, words.
-/
import Derived.Test.YtlbilifiehddbaaBase
namespace Go.Proofs.Ytlbilifiehddbaa
open Go Go.RowKit Go.Proofs.Ytlbilifiehddbaa.Kit

theorem in_any (n lo hi : Int) (w : World) :
    Calls Try.prog 17 #[.int .i64 n, .int .i64 lo, .int .i64 hi] w fun e w' => e = .returned (.bool (inB n lo hi)) ∧ w = w' := by
  by_cases h1 : lo ≤ n
  · by_cases h2 : n ≤ hi
    · have hI : Hid (inB n lo hi = true) := inB_t ⟨h1, h2⟩
      go_enter Try.func17, Try.ntmps17
      go_wp2
      go_ret
      exact ⟨ret_bool hI.out.symm, rfl⟩
    · have hI : Hid (inB n lo hi = false) := inB_f (by omega)
      go_enter Try.func17, Try.ntmps17
      go_wp2
      go_ret
      exact ⟨ret_bool hI.out.symm, rfl⟩
  · have hI : Hid (inB n lo hi = false) := inB_f (by omega)
    go_enter Try.func17, Try.ntmps17
    go_wp2
    go_ret
    exact ⟨ret_bool hI.out.symm, rfl⟩

theorem there_any (ao : Option Addr) (len cap : Nat) (i n : Int) (hr : len * 8 ≤ 140737488351232) (w : World) :
    Calls Try.prog 19 #[.slice ao len cap, .int .i64 i, .int .i64 n] w fun e w' => e = .returned (.bool (thereB len i n)) ∧ w = w' := by
  by_cases h1 : 0 ≤ i ∧ i ≤ len
  · by_cases h2 : 0 ≤ n ∧ n ≤ len
    · have e1 : inB i 0 len = true := inB_t h1
      have e2 : inB n 0 len = true := inB_t h2
      obtain ⟨p1, p2⟩ := h1
      obtain ⟨p3, p4⟩ := h2
      by_cases h3 : i + n ≤ len
      · have hI : Hid (thereB len i n = true) := thereB_t (by omega)
        go_enter Try.func19, Try.ntmps19
        go_wp2_with (go_at_call 17; refine (in_any _ _ _ _).mono ?_; rintro e w' ⟨rfl, rfl⟩)
        go_ret
        exact ⟨ret_bool hI.out.symm, rfl⟩
      · have hI : Hid (thereB len i n = false) := thereB_f (by omega)
        go_enter Try.func19, Try.ntmps19
        go_wp2_with (go_at_call 17; refine (in_any _ _ _ _).mono ?_; rintro e w' ⟨rfl, rfl⟩)
        go_ret
        exact ⟨ret_bool (by rw [hI.out]; exact decide_eq_false (by omega)), rfl⟩
    · have e1 : inB i 0 len = true := inB_t h1
      have e2 : inB n 0 len = false := inB_f h2
      have hI : Hid (thereB len i n = false) := thereB_f (by omega)
      clear h2 h1
      go_enter Try.func19, Try.ntmps19
      go_wp2_with (go_at_call 17; refine (in_any _ _ _ _).mono ?_; rintro e w' ⟨rfl, rfl⟩)
      go_ret
      exact ⟨ret_bool hI.out.symm, rfl⟩
  · have e1 : inB i 0 len = false := inB_f h1
    have hI : Hid (thereB len i n = false) := thereB_f (by omega)
    clear h1
    go_enter Try.func19, Try.ntmps19
    go_wp2_with (go_at_call 17; refine (in_any _ _ _ _).mono ?_; rintro e w' ⟨rfl, rfl⟩)
    go_ret
    exact ⟨ret_bool hI.out.symm, rfl⟩

set_option maxHeartbeats 400000 in
theorem words_any (w : World) (ao : Option Addr) (n cap : Nat) (xs : List Int) (hn : xs.length = n) (hr : n * 8 ≤ 140737488351232) (hx : IntsAt w ao xs) :
    Calls Try.prog 21 #[.slice ao n cap] w fun e w' => ∃ bo c, e = .returned (.slice bo n c) ∧
      w'.ownsRow w.heap.size 3 1 (.slice bo n c) n (vals xs) ∧ Below w.heap.size w w' := by
  obtain ⟨i0, hi, hz0, hz1, hz2⟩ := info_parts info_int
  go_enter Try.func21, Try.ntmps21
  go_wp2
  go_loopw [3, 4] (fun v i wr => ∃ k : Nat, k ≤ n ∧ i = .int .i64 k ∧ wr.ownsRow w.heap.size 3 1 v k (vals (xs.take k)) ∧ Below w.heap.size w wr) (fun _ i _ => n - (intOf i).toNat)
  case atStart => exact ⟨0, Nat.zero_le _, rfl, World.ownsRow_nil _ _ _ _, Below.refl _ _⟩
  case round =>
    obtain ⟨k, hk, rfl, hown, hb⟩ := hrel
    by_cases hlt : k < n
    · obtain ⟨b, o, x, rfl, c, hX⟩ := (hx.below hb).at k (by omega)
      have hs := hb.size
      have hml : k + 1 ≤ maxLen := by unfold maxLen; omega
      clear hx
      go_wp2_with (at_builtin; refine wpList_append_own _ rfl (.tmp 11) (.tmp 16) 22 rfl w.heap.size 3 i0 (.int .i64 0) 1 8 Try.underlying22 hi hz0 hz1 hz2 rfl (by decide) _ _ _ rfl (hown.alloc _) ⟨wr.heap.size, 0, none⟩ 1 1 [.int .i64 x] rfl rfl ?c1 ?c2 hml ?c4 ?c5 ?_)
      case c1 => exact cell_one_new' _ _ _
      case c2 => exact ints_oneCell .i64 [_]
      case c4 => omega
      case c5 => simp; omega
      intro v' w1 hown' hgrow _
      rw [take_snoc xs k (by omega) hX.out] at hown'
      have hb' : Below w.heap.size w w1 := (hb.alloc hs _).grown hgrow (by simp; omega) (fun g hg => (hown.lt g hg).1)
      clear hown hgrow hb
      go_wp2
      go_roundw
      case rel => exact ⟨k + 1, by omega, by go_num, hown', hb'⟩
      case measure => simp [intOf]; omega
    · obtain rfl : k = n := by omega
      obtain ⟨bo, c, rfl⟩ := owns_shape hown
      go_wp2
      go_ret
      exact ⟨bo, c, rfl, by rw [List.take_of_length_le (by omega)] at hown; exact hown, hb⟩

end Go.Proofs.Ytlbilifiehddbaa
