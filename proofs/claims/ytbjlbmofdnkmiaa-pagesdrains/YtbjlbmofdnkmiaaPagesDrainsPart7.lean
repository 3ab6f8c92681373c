/-
  OWN TEXTS, bundled: HcSm, HcMarks, HcApart, HcOwn, IIdx, HcList.
-/
import Derived.Test.YtbjlbmofdnkmiaaPagesDrainsPart6
import Derived.Test.YtbjlbmofdnkmiaaPagesDrainsPart4
import Derived.Test.YtbjlbmofdnkmiaaPagesDrainsPart2
import Derived.Test.YtbjlbmofdnkmiaaPagesDrainsPart5

/-
  OWN TEXT. Contracts of the code: the small functions of pages, and cmp's.
-/
namespace Go.Proofs.Ytbjlbmofdnkmiaa
open Go Go.RowKit Go.Proofs.Ytbjlbmofdnkmiaa.Kit

set_option maxHeartbeats 1000000 in
theorem pIsMin_any (w : World) (x : Int) :
    Calls Try.prog 21 #[.int .i64 x] w fun e w' => e = .returned (.bool (inB x 0 256)) ∧ w = w' := by
  by_cases h1 : 0 ≤ x
  · by_cases h2 : x ≤ 256
    · have HR : Hid (inB x 0 256 = true) := inB_t (by omega)
      go_enter Try.func21, Try.ntmps21
      go_wp2
      go_ret
      exact ⟨ret_bool HR.out.symm, rfl⟩
    · have HR : Hid (inB x 0 256 = false) := inB_f (by omega)
      go_enter Try.func21, Try.ntmps21
      go_wp2
      go_ret
      exact ⟨ret_bool HR.out.symm, rfl⟩
  · have HR : Hid (inB x 0 256 = false) := inB_f (by omega)
    go_enter Try.func21, Try.ntmps21
    go_wp2
    go_ret
    exact ⟨ret_bool HR.out.symm, rfl⟩

set_option maxHeartbeats 1000000 in
theorem pAreCpus_any (w : World) (x : Int) :
    Calls Try.prog 22 #[.int .i64 x] w fun e w' => e = .returned (.bool (inB x 1 4)) ∧ w = w' := by
  by_cases h1 : 1 ≤ x
  · by_cases h2 : x ≤ 4
    · have HR : Hid (inB x 1 4 = true) := inB_t (by omega)
      go_enter Try.func22, Try.ntmps22
      go_wp2
      go_ret
      exact ⟨ret_bool HR.out.symm, rfl⟩
    · have HR : Hid (inB x 1 4 = false) := inB_f (by omega)
      go_enter Try.func22, Try.ntmps22
      go_wp2
      go_ret
      exact ⟨ret_bool HR.out.symm, rfl⟩
  · have HR : Hid (inB x 1 4 = false) := inB_f (by omega)
    go_enter Try.func22, Try.ntmps22
    go_wp2
    go_ret
    exact ⟨ret_bool HR.out.symm, rfl⟩

set_option maxHeartbeats 1000000 in
theorem pIsOrder_any (w : World) (x : Int) :
    Calls Try.prog 66 #[.int .i64 x] w fun e w' => e = .returned (.bool (inB x 0 4)) ∧ w = w' := by
  by_cases h1 : 0 ≤ x
  · by_cases h2 : x ≤ 4
    · have HR : Hid (inB x 0 4 = true) := inB_t (by omega)
      go_enter Try.func66, Try.ntmps66
      go_wp2
      go_ret
      exact ⟨ret_bool HR.out.symm, rfl⟩
    · have HR : Hid (inB x 0 4 = false) := inB_f (by omega)
      go_enter Try.func66, Try.ntmps66
      go_wp2
      go_ret
      exact ⟨ret_bool HR.out.symm, rfl⟩
  · have HR : Hid (inB x 0 4 = false) := inB_f (by omega)
    go_enter Try.func66, Try.ntmps66
    go_wp2
    go_ret
    exact ⟨ret_bool HR.out.symm, rfl⟩

set_option maxHeartbeats 1000000 in
theorem pIsType_any (w : World) (x : Int) :
    Calls Try.prog 67 #[.int .i64 x] w fun e w' => e = .returned (.bool (inB x 0 2)) ∧ w = w' := by
  by_cases h1 : 0 ≤ x
  · by_cases h2 : x < 3
    · have HR : Hid (inB x 0 2 = true) := inB_t (by omega)
      go_enter Try.func67, Try.ntmps67
      go_wp2
      go_ret
      exact ⟨ret_bool HR.out.symm, rfl⟩
    · have HR : Hid (inB x 0 2 = false) := inB_f (by omega)
      go_enter Try.func67, Try.ntmps67
      go_wp2
      go_ret
      exact ⟨ret_bool HR.out.symm, rfl⟩
  · have HR : Hid (inB x 0 2 = false) := inB_f (by omega)
    go_enter Try.func67, Try.ntmps67
    go_wp2
    go_ret
    exact ⟨ret_bool HR.out.symm, rfl⟩

set_option maxHeartbeats 1000000 in
theorem pIsCpu_any (w : World) (a b c d : Value) (n x : Int) :
    Calls Try.prog 45 #[.agg #[a, b, .int .i64 n, c, d], .int .i64 x] w fun e w' => e = .returned (.bool (inB x 0 (n - 1))) ∧ Below w.heap.size w w' := by
  have hb1 := below_box w (.cells #[a, b, .int .i64 n, c, d] 28)
  by_cases h1 : 0 ≤ x
  · by_cases h2 : x < n
    · have HR : Hid (inB x 0 (n - 1) = true) := inB_t (by omega)
      go_enter Try.func45, Try.ntmps45
      go_wp2
      go_ret
      exact ⟨ret_bool HR.out.symm, hb1⟩
    · have HR : Hid (inB x 0 (n - 1) = false) := inB_f (by omega)
      go_enter Try.func45, Try.ntmps45
      go_wp2
      go_ret
      exact ⟨ret_bool HR.out.symm, hb1⟩
  · have HR : Hid (inB x 0 (n - 1) = false) := inB_f (by omega)
    go_enter Try.func45, Try.ntmps45
    go_wp2
    go_ret
    exact ⟨ret_bool HR.out.symm, hb1⟩

set_option maxHeartbeats 1000000 in
theorem pIsPage_any (w : World) (f t x : Int) (u v : Value) :
    Calls Try.prog 80 #[.agg #[.int .i64 f, .int .i64 t, u, v], .int .i64 x] w fun e w' => e = .returned (.bool (inB x f (t - 1))) ∧ Below w.heap.size w w' := by
  have hb1 := below_box w (.cells #[.int .i64 f, .int .i64 t, u, v] 44)
  by_cases h1 : f ≤ x
  · by_cases h2 : x < t
    · have HR : Hid (inB x f (t - 1) = true) := inB_t (by omega)
      go_enter Try.func80, Try.ntmps80
      go_wp2
      go_ret
      exact ⟨ret_bool HR.out.symm, hb1⟩
    · have HR : Hid (inB x f (t - 1) = false) := inB_f (by omega)
      go_enter Try.func80, Try.ntmps80
      go_wp2
      go_ret
      exact ⟨ret_bool HR.out.symm, hb1⟩
  · have HR : Hid (inB x f (t - 1) = false) := inB_f (by omega)
    go_enter Try.func80, Try.ntmps80
    go_wp2
    go_ret
    exact ⟨ret_bool HR.out.symm, hb1⟩


/-- Which of two numbers is the greater one. -/
def cmpI (a b : Int) : Int := if a < b then -1 else if b < a then 1 else 0
/-- The first number that is not 0. -/
def orL : List Int → Int
  | [] => 0
  | x :: l => if x = 0 then orL l else x

theorem cmpNaN_any (w : World) (x : Int) : Calls Try.prog 100 #[.int .i64 x] w fun e w' => e = .returned (.bool false) ∧ w = w' := by
  have q : (x == x) = true := by simp
  go_enter Try.func100, Try.ntmps100
  go_wp2
  go_ret
  exact ⟨rfl, rfl⟩

theorem cmpCompare_any (w : World) (a b : Int) : Calls Try.prog 82 #[.int .i64 a, .int .i64 b] w fun e w' => e = .returned (.int .i64 (cmpI a b)) ∧ w = w' := by
  have HN := cmpNaN_any
  rcases (show a < b ∨ b < a ∨ a = b by omega) with h | h | h
  · have HR : Hid (cmpI a b = -1) := by show _ = _; unfold cmpI; rw [if_pos h]
    go_enter Try.func82, Try.ntmps82
    go_wp2_with (go_at_call 100; refine (HN _ _).mono ?_; rintro e w' ⟨rfl, rfl⟩)
    go_ret
    exact ⟨by rw [HR.out]; rfl, rfl⟩
  · have HR : Hid (cmpI a b = 1) := by show _ = _; unfold cmpI; rw [if_neg (by omega), if_pos h]
    go_enter Try.func82, Try.ntmps82
    go_wp2_with (go_at_call 100; refine (HN _ _).mono ?_; rintro e w' ⟨rfl, rfl⟩)
    go_ret
    exact ⟨by rw [HR.out]; rfl, rfl⟩
  · have HR : Hid (cmpI a b = 0) := by show _ = _; unfold cmpI; rw [if_neg (by omega), if_neg (by omega)]
    subst h
    go_enter Try.func82, Try.ntmps82
    go_wp2_with (go_at_call 100; refine (HN _ _).mono ?_; rintro e w' ⟨rfl, rfl⟩)
    go_ret
    exact ⟨by rw [HR.out]; rfl, rfl⟩

set_option maxHeartbeats 1000000 in
theorem cmpOr_any (w : World) (ao : Option Addr) (n cap : Nat) (xs : List Int) (h : Nums w ao n xs) : Calls Try.prog 81 #[.slice ao n cap] w fun e w' => e = .returned (.int .i64 (orL xs)) ∧ w = w' := by
  have hn := h.len
  have hr := h.reach
  have hx := h.at_
  clear h
  go_enter Try.func81, Try.ntmps81
  go_wp2
  go_loopw [8] (fun i wr => ∃ k : Nat, k ≤ n ∧ i = .int .i64 k ∧ Hid (orL xs = orL (xs.drop k)) ∧ w = wr) (fun i _ => n - (intOf i).toNat)
  case atStart => exact ⟨0, Nat.zero_le _, rfl, rfl, rfl⟩
  case round =>
    obtain ⟨k, hk, rfl, hO, rfl⟩ := hrel
    by_cases hlt : k < n
    · obtain ⟨b, off, x, rfl, c0, hX⟩ := hx.at k (by omega)
      have hd : xs.drop k = x :: xs.drop (k + 1) := by
        rw [List.drop_eq_getElem_cons (by omega)]
        congr 1
        have := hX.out
        rw [List.getD_eq_getElem?_getD, List.getElem?_eq_getElem (by omega)] at this
        exact this
      by_cases h0 : x = 0
      · have HO : Hid (orL xs = orL (xs.drop (k + 1))) := by show _ = _; rw [hO.out, hd]; show (if x = 0 then _ else x) = _; rw [if_pos h0]
        subst h0
        clear hO hd hX
        go_wp2
        go_roundw
        case rel => exact ⟨k + 1, by omega, by go_num, HO, trivial⟩
        case measure => simp [intOf]; omega
      · have HO : Hid (orL xs = x) := by show _ = _; rw [hO.out, hd]; show (if x = 0 then _ else x) = _; rw [if_neg h0]
        have h0' : (x == 0) = false := by simpa using h0
        clear hO hd hX
        go_wp2
        go_ret
        exact ⟨by rw [HO.out]; rfl, rfl⟩
    · have HO : Hid (orL xs = 0) := by show _ = _; rw [hO.out, List.drop_eq_nil_of_le (by omega)]; rfl
      clear hO
      go_wp2
      go_ret
      exact ⟨by rw [HO.out]; rfl, rfl⟩

end Go.Proofs.Ytbjlbmofdnkmiaa

/-
  OWN TEXT. Contracts of the code: the marks of pages: add, addBlocks.
-/
namespace Go.Proofs.Ytbjlbmofdnkmiaa
open Go Go.RowKit Go.Proofs.Ytbjlbmofdnkmiaa.Kit

/-- Pages were not marked, and are; or one was. -/
def Added (w' : World) (b : Nat) (h0 : Int → Bool) (a s : Nat) (e : Ending) : Prop :=
  (e = .returned (.bool true) ∧ (∀ p : Int, a ≤ p → p < a + s → h0 p = false) ∧ MarksAt w' b 92 (setH a s true h0)) ∨ (e = .returned (.bool false) ∧ ∃ p : Int, a ≤ p ∧ p < a + s ∧ h0 p = true)

set_option maxHeartbeats 2000000 in
set_option maxRecDepth 4000 in
theorem pAdd_any (w : World) (b : Nat) (h0 : Int → Bool) (a s : Nat) (hm : MarksAt w b 92 h0) (hfs : a + s ≤ 256) :
    Calls Try.prog 69 #[.pointer (some ⟨b, 0, none⟩), .int .i64 a, .int .i64 s] w fun e w' => Added w' b h0 a s e ∧ But b w w' := by
  have hlt := hm.lt
  go_enter Try.func69, Try.ntmps69
  go_wp2
  go_loopw [9] (fun i wr => ∃ k : Nat, k ≤ s ∧ i = .int .i64 k ∧ Hid (∀ p : Int, a ≤ p → p < a + k → h0 p = false) ∧ MarksAt wr b 92 (setH a k true h0) ∧ But b w wr) (fun i _ => s - (intOf i).toNat)
  case atStart => exact ⟨0, Nat.zero_le _, rfl, (fun p h1 h2 => by omega), (show w.heap[b]? = some (.cells (mk (setH (a : Int) (0 : Int) true h0)) _ _) by rw [mk_set0]; exact hm), But.refl _ _⟩
  case round =>
    obtain ⟨k, hk, rfl, hN, hM, hB⟩ := hrel
    by_cases hk1 : k < s
    · have c1 := hM.cell (a + k) (by omega)
      have c2 := hM.fz (a + k)
      have hM' := hM.set (by omega)
      have hB' := hB.setCell (o := a + k) (.bool true)
      have e0 : setH a k true h0 ((a + k : Nat) : Int) = h0 ((a + k : Nat) : Int) := by unfold setH; rw [if_neg (by omega)]
      rw [e0] at c1
      cases hv : h0 ((a + k : Nat) : Int) with
      | true =>
        rw [hv] at c1
        have HF : Hid (∃ p : Int, a ≤ p ∧ p < a + s ∧ h0 p = true) := ⟨((a + k : Nat) : Int), by omega, by omega, hv⟩
        clear hM hM' hB' hN hm e0 hv
        go_wp2
        go_ret
        exact ⟨.inr ⟨rfl, HF.out⟩, hB⟩
      | false =>
        rw [hv] at c1
        have HN : Hid (∀ p : Int, a ≤ p → p < a + ((k + 1 : Nat) : Int) → h0 p = false) := fun p h1 h2 => by
          by_cases e : p = ((a + k : Nat) : Int)
          · rw [e]; exact hv
          · exact hN.out p h1 (by omega)
        clear hM hB hm hN e0 hv
        go_wp2
        go_roundw
        case rel => exact ⟨k + 1, by omega, by go_num, HN, hM', hB'⟩
        case measure => simp [intOf]; omega
    · obtain rfl : k = s := by omega
      go_wp2
      go_ret
      exact ⟨.inl ⟨rfl, hN.out, hM⟩, hB⟩

/-- Blocks are apart, and their pages marked; or they aren't. -/
def AddedL (w' : World) (b : Nat) (P l : List Bk) (e : Ending) : Prop :=
  (e = .returned (.bool true) ∧ Apt P l ∧ MarksAt w' b 92 (cov (P ++ l))) ∨ (e = .returned (.bool false) ∧ ¬ Apt P l)

theorem cov_set (P : List Bk) (c : Bk) (a s : Nat) (ha : (a : Int) = c.a) (hs : (s : Int) = pw c.o) (p : Int) : setH a s true (cov P) p = cov (P ++ [c]) p := by
  rw [cov_append, cov_one]
  unfold setH
  rw [ha, hs]
  by_cases h : c.a ≤ p ∧ p < c.a + pw c.o
  · rw [if_pos h, decide_eq_true h]; simp
  · rw [if_neg h, decide_eq_false h]; simp

theorem marks_cov {w : World} {b a s : Nat} {P : List Bk} {c : Bk} (ha : (a : Int) = c.a) (hs : (s : Int) = pw c.o) (h : MarksAt w b 92 (setH a s true (cov P))) : MarksAt w b 92 (cov (P ++ [c])) := by
  unfold MarksAt at h ⊢
  rw [h, mk_ext fun p _ => cov_set P c a s ha hs p]

set_option maxHeartbeats 2000000 in
set_option maxRecDepth 4000 in
theorem pAddBlocks_any (w : World) (b : Nat) (P l : List Bk) (ao : Option Addr) (n cap : Nat) (hm : MarksAt w b 92 (cov P)) (hl : Blks w ao n l) (hI : ∀ i, i < l.length → InP (l.getD i .zero)) (hne : 0 < n → ∀ a, ao = some a → a.block ≠ b) :
    Calls Try.prog 68 #[.pointer (some ⟨b, 0, none⟩), .slice ao n cap] w fun e w' => AddedL w' b P l e ∧ But b w w' := by
  have hn := hl.len
  have hr := hl.reach
  have hI' : Hid _ := hI
  clear hI
  go_enter Try.func68, Try.ntmps68
  go_wp2
  go_loopw [9] (fun i wr => ∃ k : Nat, k ≤ n ∧ i = .int .i64 k ∧ Hid (Apt P (l.take k)) ∧ MarksAt wr b 92 (cov (P ++ l.take k)) ∧ But b w wr) (fun i _ => n - (intOf i).toNat)
  case atStart => exact ⟨0, Nat.zero_le _, rfl, (by show Apt P _; simpa using apt_nil P), by simpa using hm, But.refl _ _⟩
  case round =>
    obtain ⟨k, hk, rfl, hA, hM, hB⟩ := hrel
    by_cases hlt : k < n
    · obtain ⟨g, off, a, o, t, ha, c0, c1, c2, HX⟩ := (hB.blks hl (hne (by omega))).at_.at k (by omega)
      have hin := hI'.out k (by omega)
      rw [HX.out] at hin
      obtain ⟨h1, h2, h3⟩ := hin
      dsimp only at h1 h2 h3
      subst ha
      have hbb := below_box wr (.cells #[.int .i64 a, .int .i64 o, .int .i64 t] 63)
      have y0 : (wr.alloc (.cells #[.int .i64 a, .int .i64 o, .int .i64 t] 63)).cell? ⟨wr.heap.size, 0, none⟩ = some (.int .i64 a) := by go_simp
      have y1 : (wr.alloc (.cells #[.int .i64 a, .int .i64 o, .int .i64 t] 63)).cell? ⟨wr.heap.size, 1, none⟩ = some (.int .i64 o) := by go_simp
      obtain ⟨Wb, hWb⟩ : ∃ Wb, wr.alloc (.cells #[.int .i64 a, .int .i64 o, .int .i64 t] 63) = Wb := ⟨_, rfl⟩
      rw [hWb] at hbb y0 y1
      have HWb : Hid _ := hWb
      have hMb := hM.below hbb
      have hBb := hB.trans (But.of_below hbb)
      clear hWb
      have hp := pw_pos o
      have hp16 := pw_le h1
      have hw1 : IntKind.i64.wrap ((2 : Int) ^ o.toNat) = pw o := by rcases ord_cases h1 with ⟨rfl, e⟩ | ⟨rfl, e⟩ | ⟨rfl, e⟩ | ⟨rfl, e⟩ | ⟨rfl, e⟩ <;> (rw [e]; rfl)
      obtain ⟨S, hS⟩ : ∃ S : Nat, pw o = S := ⟨(pw o).toNat, by omega⟩
      obtain ⟨A, hA'⟩ : ∃ A : Nat, a = A := ⟨a.toNat, by omega⟩
      have HS : Hid (pw o = S) := hS
      rw [hS] at hp hp16 hw1 h3
      obtain ⟨o0, o4⟩ := id h1
      have HA' : Hid (a = A) := hA'
      rw [hA'] at y0 h3
      have hAdd := fun W (hm : MarksAt W b 92 (cov (P ++ l.take k))) => pAdd_any W b _ A S hm (by omega)
      have HAd : Hid _ := hAdd
      clear hS hAdd hA'
      go_wp2_with (rw [HWb.out])
      clear HWb c0 c1 c2
      have hSB : Below Wb.heap.size Wb { Wb with drawn := Wb.drawn + 1 } := (Below.refl Wb.heap.size Wb).drew
      have SB : But b Wb { Wb with drawn := Wb.drawn + 1 } := But.of_below hSB
      have hbn : wr.heap.size ≠ b := by have := hM.lt; omega
      have m0 : ∀ wx, But b Wb wx → wx.cell? ⟨wr.heap.size, 0, none⟩ = some (.int .i64 (A : Int)) := fun wx h => h.cell y0 hbn
      have m1 : ∀ wx, But b Wb wx → wx.cell? ⟨wr.heap.size, 1, none⟩ = some (.int .i64 o) := fun wx h => h.cell y1 hbn
      refine wp_region_peel (S := fun wx => But b Wb wx) 7 _ (by kernel_rfl) (by kernel_rfl) rfl ?_
      simp only [List.take_succ_cons, List.take_zero]
      refine takeH 0 (v := .pointer (some ⟨b, 0, none⟩)) rfl (by kernel_rfl) (by kernel_rfl) (by kernel_rfl) (fun _ _ _ h => h) rfl (fun wx hSx => ?_) SB ?_
      · go_simp
      try simp only [Act.put, List.setIfInBounds_toArray, List.set_cons_zero, List.set_cons_succ]
      refine takeH 1 (v := .pointer (some ⟨wr.heap.size, 0, none⟩)) rfl (by kernel_rfl) (by kernel_rfl) (by kernel_rfl) (fun _ _ _ h => h) rfl (fun wx hSx => ?_) SB ?_
      · go_simp
      try simp only [Act.put, List.setIfInBounds_toArray, List.set_cons_zero, List.set_cons_succ]
      refine takeH 2 (v := .int .i64 (A : Int)) rfl (by kernel_rfl) (by kernel_rfl) (by kernel_rfl) (fun _ _ _ h => h) rfl (fun wx hSx => ?_) SB ?_
      · go_simp
      try simp only [Act.put, List.setIfInBounds_toArray, List.set_cons_zero, List.set_cons_succ]
      refine takeH 3 (v := .pointer (some ⟨wr.heap.size, 1, none⟩)) rfl (by kernel_rfl) (by kernel_rfl) (by kernel_rfl) (fun _ _ _ h => h) rfl (fun wx hSx => ?_) SB ?_
      · go_simp
      try simp only [Act.put, List.setIfInBounds_toArray, List.set_cons_zero, List.set_cons_succ]
      refine takeH 4 (v := .int .i64 o) rfl (by kernel_rfl) (by kernel_rfl) (by kernel_rfl) (fun _ _ _ h => h) rfl (fun wx hSx => ?_) SB ?_
      · go_simp
      try simp only [Act.put, List.setIfInBounds_toArray, List.set_cons_zero, List.set_cons_succ]
      refine takeH 5 (v := .int .i64 (S : Int)) rfl (by kernel_rfl) (by kernel_rfl) (by kernel_rfl) (fun _ _ _ h => h) rfl (fun wx hSx => ?_) SB ?_
      · go_simp
      try simp only [Act.put, List.setIfInBounds_toArray, List.set_cons_zero, List.set_cons_succ]
      refine oneH 6 (by kernel_rfl) rfl rfl (fun K1 hK1 => ?_)
      go_simp
      refine (HAd.out _ (hMb.below hSB)).mono ?_
      rintro e wA ⟨hAd, hbA⟩
      have SA : But b Wb wA := (But.of_below hSB).trans hbA
      have hBA := hBb.trans SA
      rcases hAd with ⟨rfl, hfree, hM2⟩ | ⟨rfl, p, q1, q2, q3⟩
      · have hno : ¬ ovlP (P ++ l.take k) (l.getD k .zero).a (l.getD k .zero).o := by
          rw [HX.out, ← cov_ovl]
          rintro ⟨p, q1, q2, q3⟩
          dsimp only at q1 q2
          rw [HS.out, HA'.out] at q2
          rw [HA'.out] at q1
          rw [hfree p q1 q2] at q3
          cases q3
        have hA2 : Hid (Apt P (l.take (k + 1))) := (apt_take_succ P l k (by omega)).2 ⟨hA.out, hno⟩
        have hM3 := marks_cov (c := ⟨a, o, t⟩) HA'.out.symm HS.out.symm hM2
        rw [List.append_assoc, ← take_getD l k (by omega) HX.out] at hM3
        refine hK1 _ _ SA ?_
        try simp only [Act.put, List.setIfInBounds_toArray, List.set_cons_zero, List.set_cons_succ]
        refine wpAnyH_done (by kernel_rfl) ?_ _
        show Oper.wp _ _ _ _ _ _
        clear hno hM2 hfree hMb hM hA hK1 m0 m1 SA hbA HAd hBb hB y0 y1 hw1
        go_wp2
        go_roundw
        case rel => exact ⟨k + 1, by omega, by go_num, hA2, hM3, hBA⟩
        case measure => simp [intOf]; omega
      · have HF : Hid (¬ Apt P l) := fun hh => by
          have := ((apt_take_succ P l k (by omega)).1 (apt_take hh (k + 1))).2
          apply this
          rw [HX.out, ← cov_ovl]
          dsimp only
          rw [HS.out, HA'.out]
          exact ⟨p, q1, q2, q3⟩
        refine hK1 _ _ SA ?_
        try simp only [Act.put, List.setIfInBounds_toArray, List.set_cons_zero, List.set_cons_succ]
        refine wpAnyH_done (by kernel_rfl) ?_ _
        show Oper.wp _ _ _ _ _ _
        clear hMb hM hA hK1 m0 m1 SA hbA HAd hBb hB y0 y1 hw1 q3
        go_wp2
        go_ret
        exact ⟨.inr ⟨rfl, HF.out⟩, hBA⟩
    · have e : l.take k = l := List.take_of_length_le (by omega)
      rw [e] at hA hM
      go_wp2
      go_ret
      exact ⟨.inl ⟨rfl, hA.out, hM⟩, hB⟩

end Go.Proofs.Ytbjlbmofdnkmiaa

/-
  OWN TEXT. Contracts of the code: pages.areApart.
-/
namespace Go.Proofs.Ytbjlbmofdnkmiaa
open Go Go.RowKit Go.Proofs.Ytbjlbmofdnkmiaa.Kit

theorem zero_pmarks (w : World) : (zeroValue 92).run Try.prog w = .ok (.agg (mk fun _ => false)) w := by kernel_rfl

/-- Free blocks of zones, one after the other. -/
def freeA (l : List Zc) : List Bk := l.flatMap fun z => z.z.free
/-- Pages of lists, one after the other. -/
def pageA (l : List Lc) : List Bk := l.flatMap fun x => x.l.pages.map pgB
theorem placed_eq (x : Hx) : placed x.hp = freeA x.zs ++ (pageA x.ls ++ x.live) := by
  unfold placed freeA pageA Hx.hp
  simp [List.flatMap_map]
theorem flatMap_take {α β : Type} (l : List α) (f : α → List β) (k : Nat) (h : k < l.length) (d : α) : (l.take (k + 1)).flatMap f = (l.take k).flatMap f ++ f (l.getD k d) := by
  rw [List.take_succ_eq_append_getElem h, List.flatMap_append, List.getD_eq_getElem?_getD, List.getElem?_eq_getElem h]
  simp
theorem flatMap_split {α β : Type} (l : List α) (f : α → List β) (k : Nat) : l.flatMap f = (l.take k).flatMap f ++ (l.drop k).flatMap f := by
  rw [← List.flatMap_append, List.take_append_drop]
theorem apt_mid {P l R : List Bk} (h : Apt [] (P ++ (l ++ R))) : Apt P l := by
  have := ((apt_append [] P (l ++ R)).1 h).2
  exact ((apt_append _ l R).1 this).1
theorem map_take_succ (l : List Int) (k : Nat) (h : k < l.length) : (l.take (k + 1)).map pgB = (l.take k).map pgB ++ [pgB (l.getD k 0)] := by
  rw [List.take_succ_eq_append_getElem h, List.map_append, List.getD_eq_getElem?_getD, List.getElem?_eq_getElem h]
  simp

theorem Blks.lt {w : World} {ao : Option Addr} {n : Nat} {l : List Bk} (h : Blks w ao n l) (hn : 0 < n) : ∀ a, ao = some a → a.block < w.heap.size := by
  intro a ha
  obtain ⟨b, off, e, c, _, _⟩ := h.at_ 0 (by have := h.len; omega)
  rw [ha] at e
  cases e
  have := World.block_lt_of_cell? w _ c
  exact this

/-- What is there in the midst of areApart. -/
structure ApI (w W0 : World) (x : Hx) (P : List Bk) (wr : World) : Prop where
  b : Below w.heap.size w wr
  but : But (w.heap.size + 1) W0 wr
  m : MarksAt wr (w.heap.size + 1) 92 (cov P)
  box : HBox wr w.heap.size (.slice x.zo x.zn x.zc) (.slice x.mo x.mn x.mc) (.int .i64 x.cpus) (.slice x.lo x.ln x.lc) (.slice x.vo x.vn x.vc)
theorem ApI.below {w W0 : World} {x : Hx} {P : List Bk} {wr wr' : World} (h : ApI w W0 x P wr) (hb : Below wr.heap.size wr wr') : ApI w W0 x P wr' :=
  ⟨h.b.trans (hb.mono h.b.size), h.but.trans (But.of_below hb), h.m.below hb, h.box.below hb⟩
theorem ApI.step {w W0 : World} {x : Hx} {P Q : List Bk} {wr wr' : World} (h : ApI w W0 x P wr) (hb : But (w.heap.size + 1) wr wr') (hm : MarksAt wr' (w.heap.size + 1) 92 (cov Q)) : ApI w W0 x Q wr' :=
  ⟨h.b.trans (hb.below (by omega) h.b.size), h.but.trans hb, hm, h.box.but hb (by omega)⟩

set_option maxRecDepth 4000 in
set_option maxHeartbeats 4000000 in
theorem pApart_any (w : World) (x : Hx) (hx : x.At w) (hz : ∀ z ∈ x.zs, ∀ i, i < z.z.free.length → InP (z.z.free.getD i .zero)) (hl : ∀ l ∈ x.ls, ∀ i, i < l.l.pages.length → 0 ≤ l.l.pages.getD i 0 ∧ l.l.pages.getD i 0 < 256) (hv : ∀ i, i < x.live.length → InP (x.live.getD i .zero)) :
    Calls Try.prog 35 #[.agg #[.slice x.zo x.zn x.zc, .slice x.mo x.mn x.mc, .int .i64 x.cpus, .slice x.lo x.ln x.lc, .slice x.vo x.vn x.vc]] w fun e w' => RetIff e (Apt [] (placed x.hp)) ∧ Below w.heap.size w w' := by
  have HPl := placed_eq x
  obtain ⟨PL, hPL⟩ : ∃ PL, placed x.hp = PL := ⟨_, rfl⟩
  rw [hPL] at HPl ⊢
  have HP : Hid (PL = freeA x.zs ++ (pageA x.ls ++ x.live)) := HPl
  clear HPl hPL
  have hz' : Hid _ := hz
  have hl' : Hid _ := hl
  have hv' : Hid _ := hv
  have hb1 := below_box w (.cells #[.slice x.zo x.zn x.zc, .slice x.mo x.mn x.mc, .int .i64 x.cpus, .slice x.lo x.ln x.lc, .slice x.vo x.vn x.vc] 28)
  have A1 := hbox_new w (.slice x.zo x.zn x.zc) (.slice x.mo x.mn x.mc) (.int .i64 x.cpus) (.slice x.lo x.ln x.lc) (.slice x.vo x.vn x.vc) 28
  have hs1 : (w.alloc (.cells #[.slice x.zo x.zn x.zc, .slice x.mo x.mn x.mc, .int .i64 x.cpus, .slice x.lo x.ln x.lc, .slice x.vo x.vn x.vc] 28)).heap.size = w.heap.size + 1 := by simp
  have hzm := zero_pmarks
  obtain ⟨Z, hZ⟩ : ∃ Z, mk (fun _ => false) = Z := ⟨_, rfl⟩
  rw [hZ] at hzm
  obtain ⟨W0, hW0⟩ : ∃ W0, (w.alloc (.cells #[.slice x.zo x.zn x.zc, .slice x.mo x.mn x.mc, .int .i64 x.cpus, .slice x.lo x.ln x.lc, .slice x.vo x.vn x.vc] 28)).alloc (.cells Z 92) = W0 := ⟨_, rfl⟩
  have hb2 : Below w.heap.size w W0 := by rw [← hW0]; exact hb1.trans ((below_box _ _).mono hb1.size)
  have I0 : ApI w W0 x [] W0 := by
    refine ⟨hb2, But.refl _ _, ?_, by rw [← hW0]; exact A1.below (below_box _ _)⟩
    show W0.heap[w.heap.size + 1]? = some (Obj.cells (mk (cov [])) _ _)
    have e : mk (cov []) = Z := by rw [← hZ]; exact mk_ext fun p _ => rfl
    rw [e, ← hW0]
    have := heap_alloc_new (w.alloc (.cells #[.slice x.zo x.zn x.zc, .slice x.mo x.mn x.mc, .int .i64 x.cpus, .slice x.lo x.ln x.lc, .slice x.vo x.vn x.vc] 28)) (.cells Z 92)
    rw [hs1] at this
    exact this
  have HW0 : Hid _ := hW0
  have a0 := A1.c0
  have i0 := I0.box.c0
  obtain ⟨zo, hzo⟩ : ∃ zo, x.zo = zo := ⟨_, rfl⟩
  obtain ⟨lo, hlo⟩ : ∃ lo, x.lo = lo := ⟨_, rfl⟩
  have hZs := hx.zones
  have hLs := hx.lists
  rw [hzo] at hZs i0
  rw [hlo] at hLs
  have HZO : Hid (x.zo = zo) := hzo
  have HLO : Hid (x.lo = lo) := hlo
  have rz := hZs.reach
  have rl := hLs.reach
  have HNo : Hid (∀ e, (e = Ending.returned (.bool false)) → ¬ Apt [] PL → RetIff e (Apt [] PL)) := fun e he hn => ⟨false, he, by simp [hn]⟩
  clear hz hl hv hb1 A1 hs1 hW0 a0
  rw [hzo, hlo]
  rw [hzo, hlo] at HW0
  clear hzo hlo
  go_enter Try.func35, Try.ntmps35
  go_wp2_with (rw [HW0.out])
  clear HW0 hzm hZ i0
  go_loopw [13] (fun iv wr => ∃ k : Nat, k ≤ x.zn ∧ iv = .int .i64 k ∧ Hid (Apt [] (freeA (x.zs.take k))) ∧ ApI w W0 x (freeA (x.zs.take k)) wr) (fun iv _ => x.zn - (intOf iv).toNat)
  case atStart => exact ⟨0, Nat.zero_le _, rfl, (by show Apt [] _; exact apt_nil []), I0⟩
  case round =>
    obtain ⟨k, hk, rfl, hA, I⟩ := hrel
    clear I0
    by_cases hlt : k < x.zn
    · obtain ⟨g, off, z, fo, fn, fc, to_, tn, tc, ha, c0, c1, c2, c3, hat, hX⟩ := (hZs.below I.b).at k hlt
      subst ha
      have hbb := below_box wr (.cells #[.int .i64 z.f, .int .i64 z.t, .slice fo fn fc, .slice to_ tn tc] 44)
      have ZB := zbox_new wr (.int .i64 z.f) (.int .i64 z.t) (.slice fo fn fc) (.slice to_ tn tc) 44
      have hatw : Blks w fo fn z.free := by
        have := hZs.at_ _ (getD_mem (d := Zc.zero) (show k < x.zs.length by have := hZs.len; omega))
        rw [hX.out] at this
        exact ZnAt.free this
      have Ib := I.below hbb
      have HAd := pAddBlocks_any _ (w.heap.size + 1) (freeA (x.zs.take k)) z.free fo fn fc Ib.m (hatw.below Ib.b) (fun i hi => by
          have := hz'.out _ (getD_mem (d := Zc.zero) (show k < x.zs.length by have := hZs.len; omega)) i (by rw [hX.out]; exact hi)
          rw [hX.out] at this
          exact this) (fun hn a ha => by have := Blks.lt hatw hn a ha; omega)
      obtain ⟨Wb, hWb⟩ : ∃ Wb, wr.alloc (.cells #[.int .i64 z.f, .int .i64 z.t, .slice fo fn fc, .slice to_ tn tc] 44) = Wb := ⟨_, rfl⟩
      rw [hWb] at hbb ZB Ib HAd
      have HWb : Hid _ := hWb
      have y2 := ZB.c2
      clear hWb
      go_wp2_with (rw [HWb.out])
      go_at_call 68
      refine HAd.mono ?_
      rintro e W2 ⟨hAd, hb2'⟩
      have e1 : freeA (x.zs.take (k + 1)) = freeA (x.zs.take k) ++ z.free := by
        unfold freeA
        rw [flatMap_take x.zs _ k (by have := hZs.len; omega) .zero, hX.out]
      rcases hAd with ⟨rfl, hA2, hM2⟩ | ⟨rfl, hA2⟩
      · have I2 := Ib.step hb2' hM2
        rw [← e1] at I2
        have HA2 : Hid (Apt [] (freeA (x.zs.take (k + 1)))) := by show Apt [] _; rw [e1, apt_append]; exact ⟨hA.out, hA2⟩
        clear HAd hA hA2 hM2 I Ib hbb ZB c0 c1 c2 c3 hat y2 HWb e1
        go_wp2
        go_roundw
        case rel => exact ⟨k + 1, by omega, by go_num, HA2, I2⟩
        case measure => simp [intOf]; omega
      · have HF : Hid (¬ Apt [] PL) := fun h => by
          apply hA2
          rw [HP.out] at h
          have e2 : freeA x.zs = freeA (x.zs.take k) ++ (z.free ++ freeA (x.zs.drop (k + 1))) := by
            rw [← List.append_assoc, ← e1]
            exact flatMap_split _ _ _
          rw [e2, List.append_assoc, List.append_assoc] at h
          exact apt_mid h
        have hBB := Ib.b.trans (hb2'.below (by omega) Ib.b.size)
        clear HAd hA hA2 I Ib hbb ZB c0 c1 c2 c3 hat y2 HWb e1
        go_wp2
        go_ret
        exact ⟨HNo.out _ rfl HF.out, hBB⟩
    · have e0 : x.zs.take k = x.zs := List.take_of_length_le (by have := hZs.len; omega)
      rw [e0] at hA I
      have a3 := I.box.c3
      rw [HLO.out] at a3
      go_wp2_with fail
      clear a3 hlt hk e0
      go_loopw [25] (fun iv wr => ∃ k : Nat, k ≤ x.ln ∧ iv = .int .i64 k ∧ Hid (Apt [] (freeA x.zs ++ pageA (x.ls.take k))) ∧ ApI w W0 x (freeA x.zs ++ pageA (x.ls.take k)) wr) (fun iv _ => x.ln - (intOf iv).toNat)
      case atStart => exact ⟨0, Nat.zero_le _, rfl, (by show Apt [] _; simpa [pageA] using hA.out), by simpa [pageA] using I⟩
      case round =>
        clear hA I
        obtain ⟨k, hk, rfl, hA, I⟩ := hrel
        by_cases hlt : k < x.ln
        · obtain ⟨g, off, c, z, t, pages, po, pn, pc, ha, c0, c1, c2, c3, hat, hX⟩ := (hLs.below I.b).at k hlt
          subst ha
          have hbb := below_box wr (.cells #[.int .i64 c, .int .i64 z, .int .i64 t, .slice po pn pc] 57)
          have ZB := zbox_new wr (.int .i64 c) (.int .i64 z) (.int .i64 t) (.slice po pn pc) 57
          have hatw : Nums w po pn pages := by
            have := hLs.at_ _ (getD_mem (d := Lc.zero) (show k < x.ls.length by have := hLs.len; omega))
            rw [hX.out] at this
            exact this
          have hpg : Hid (∀ i, i < pages.length → 0 ≤ pages.getD i 0 ∧ pages.getD i 0 < 256) := fun i hi => by
            have := hl'.out _ (getD_mem (d := Lc.zero) (show k < x.ls.length by have := hLs.len; omega)) i (by rw [hX.out]; exact hi)
            rw [hX.out] at this
            exact this
          have e1 : pageA (x.ls.take (k + 1)) = pageA (x.ls.take k) ++ pages.map pgB := by
            unfold pageA
            rw [flatMap_take x.ls _ k (by have := hLs.len; omega) .zero, hX.out]
          have Ib := I.below hbb
          obtain ⟨Wb, hWb⟩ : ∃ Wb, wr.alloc (.cells #[.int .i64 c, .int .i64 z, .int .i64 t, .slice po pn pc] 57) = Wb := ⟨_, rfl⟩
          rw [hWb] at hbb ZB Ib
          have HWb : Hid _ := hWb
          have y3 := ZB.c3
          have rp := hatw.reach
          have HE1 : Hid _ := e1
          clear hWb e1
          go_wp2_with (rw [HWb.out])
          clear HWb c0 c1 c2 c3 y3 ZB hbb hat I
          go_loopw [32] (fun iv wr => ∃ j : Nat, j ≤ pn ∧ iv = .int .i64 j ∧ Hid (Apt [] (freeA x.zs ++ pageA (x.ls.take k) ++ (pages.take j).map pgB)) ∧ ApI w W0 x (freeA x.zs ++ pageA (x.ls.take k) ++ (pages.take j).map pgB) wr) (fun iv _ => pn - (intOf iv).toNat)
          case atStart => exact ⟨0, Nat.zero_le _, rfl, (by show Apt [] _; simpa using hA.out), by simpa using Ib⟩
          case round =>
            clear hA Ib
            obtain ⟨j, hj, rfl, hA, I⟩ := hrel
            by_cases hjl : j < pn
            · obtain ⟨g2, off2, p, ha2, c0, hP⟩ := (hatw.below I.b).at_.at j (by have := hatw.len; omega)
              subst ha2
              have hpp := hpg.out j (by have := hatw.len; omega)
              rw [hP.out] at hpp
              obtain ⟨A, hAA⟩ : ∃ A : Nat, p = A := ⟨p.toNat, by omega⟩
              have HAd := pAdd_any wr (w.heap.size + 1) _ A 1 I.m (by omega)
              rw [hAA] at c0
              have HAA : Hid (p = A) := hAA
              clear hAA hpp
              go_wp2_with fail
              go_at_call 69
              refine HAd.mono ?_
              rintro e W2 ⟨hAd, hb2'⟩
              have e2 : (pages.take (j + 1)).map pgB = (pages.take j).map pgB ++ [pgB p] := by rw [map_take_succ pages j (by have := hatw.len; omega), hP.out]
              rcases hAd with ⟨rfl, hfree, hM2⟩ | ⟨rfl, q, q1, q2, q3⟩
              · have hM3 := marks_cov (c := pgB p) HAA.out.symm (by show ((1 : Nat) : Int) = pw 0; rfl) hM2
                have I2 := I.step hb2' hM3
                rw [List.append_assoc, ← e2] at I2
                have HA2 : Hid (Apt [] (freeA x.zs ++ pageA (x.ls.take k) ++ (pages.take (j + 1)).map pgB)) := by
                  show Apt [] _
                  rw [e2, ← List.append_assoc, apt_append, apt_one]
                  refine ⟨hA.out, ?_⟩
                  rw [List.nil_append, ← cov_ovl]
                  rintro ⟨q, q1, q2, q3⟩
                  have e3 : pw (pgB p).o = 1 := rfl
                  have e4 : (pgB p).a = p := rfl
                  rw [e3, e4] at q2
                  rw [e4] at q1
                  rw [HAA.out] at q1 q2
                  rw [hfree q q1 (by omega)] at q3
                  cases q3
                clear HAd hA hfree hM2 hM3 I c0 e2
                go_wp2
                go_roundw
                case rel => exact ⟨j + 1, by omega, by go_num, HA2, I2⟩
                case measure => simp [intOf]; omega
              · have HF : Hid (¬ Apt [] PL) := fun h => by
                  have e5 : pages.map pgB = (pages.take j).map pgB ++ ([pgB p] ++ (pages.drop (j + 1)).map pgB) := by
                    rw [← List.append_assoc, ← e2, ← List.map_append, List.take_append_drop]
                  have e6 : pageA x.ls = pageA (x.ls.take k) ++ (pages.map pgB ++ pageA (x.ls.drop (k + 1))) := by
                    rw [← List.append_assoc, ← HE1.out]
                    exact flatMap_split _ _ _
                  rw [HP.out, e6, e5] at h
                  have e7 : freeA x.zs ++ (pageA (x.ls.take k) ++ ((pages.take j).map pgB ++ ([pgB p] ++ (pages.drop (j + 1)).map pgB) ++ pageA (x.ls.drop (k + 1))) ++ x.live) = (freeA x.zs ++ pageA (x.ls.take k) ++ (pages.take j).map pgB) ++ ([pgB p] ++ ((pages.drop (j + 1)).map pgB ++ pageA (x.ls.drop (k + 1)) ++ x.live)) := by simp [List.append_assoc]
                  rw [e7] at h
                  have h1 := apt_mid h
                  rw [apt_one, ← cov_ovl] at h1
                  apply h1
                  have e3 : pw (pgB p).o = 1 := rfl
                  have e4 : (pgB p).a = p := rfl
                  rw [e3, e4, HAA.out]
                  exact ⟨q, q1, by omega, q3⟩
                have hBB := I.b.trans (hb2'.below (by omega) I.b.size)
                clear HAd hA I c0 e2 q3
                go_wp2
                go_ret
                exact ⟨HNo.out _ rfl HF.out, hBB⟩
            · have e0 : pages.take j = pages := List.take_of_length_le (by have := hatw.len; omega)
              rw [e0, List.append_assoc, ← HE1.out] at hA I
              clear e0
              go_wp2
              go_roundw
              case rel => exact ⟨k + 1, by omega, by go_num, hA, I⟩
              case measure => simp [intOf]; omega
        · have e0 : x.ls.take k = x.ls := List.take_of_length_le (by have := hLs.len; omega)
          rw [e0] at hA I
          have a4 := I.box.c4
          have HAd := pAddBlocks_any _ (w.heap.size + 1) (freeA x.zs ++ pageA x.ls) x.live x.vo x.vn x.vc I.m (hx.live.below I.b) hv'.out (fun hn a ha => by have := Blks.lt hx.live hn a ha; omega)
          go_wp2_with fail
          go_at_call 68
          refine HAd.mono ?_
          rintro e W2 ⟨hAd, hb2'⟩
          have hBB := I.b.trans (hb2'.below (by omega) I.b.size)
          have HI : Hid (Apt [] PL ↔ Apt (freeA x.zs ++ pageA x.ls) x.live) := by
            show _ ↔ _
            rw [HP.out, ← List.append_assoc, apt_append]
            simp only [List.nil_append]
            exact ⟨fun h => h.2, fun h => ⟨hA.out, h⟩⟩
          rcases hAd with ⟨rfl, hA2, hM2⟩ | ⟨rfl, hA2⟩
          · have HY := HI.out.2 hA2
            have HY' : Hid _ := HY
            clear HAd hA hA2 hM2 I a4 HY HI e0
            go_wp2
            go_ret
            exact ⟨⟨true, rfl, fun _ => HY'.out, fun _ => rfl⟩, hBB⟩
          · have HF : Hid (¬ Apt [] PL) := fun h => hA2 (HI.out.1 h)
            clear HAd hA hA2 I a4 HI e0
            go_wp2
            go_ret
            exact ⟨HNo.out _ rfl HF.out, hBB⟩

end Go.Proofs.Ytbjlbmofdnkmiaa

/-
  OWN TEXT. Contracts of the code: pages.byOwner.
-/
namespace Go.Proofs.Ytbjlbmofdnkmiaa
open Go Go.RowKit Go.Proofs.Ytbjlbmofdnkmiaa.Kit

/-- The order of two lists. -/
def ownC (a b : Ls) : Int := orL [cmpI a.c b.c, cmpI a.z b.z, cmpI a.t b.t]
theorem cmpI_cases (a b : Int) : (a < b ∧ cmpI a b = -1) ∨ (b < a ∧ cmpI a b = 1) ∨ (a = b ∧ cmpI a b = 0) := by
  rcases (show a < b ∨ b < a ∨ a = b by omega) with h | h | h
  · exact .inl ⟨h, by unfold cmpI; rw [if_pos h]⟩
  · exact .inr (.inl ⟨h, by unfold cmpI; rw [if_neg (by omega), if_pos h]⟩)
  · exact .inr (.inr ⟨h, by unfold cmpI; rw [if_neg (by omega), if_neg (by omega)]⟩)
theorem ownC_neg (a b : Ls) : ownC a b < 0 ↔ aheadL a b := by
  unfold ownC aheadL orL orL orL orL
  rcases cmpI_cases a.c b.c with ⟨h, e⟩ | ⟨h, e⟩ | ⟨h, e⟩ <;> rcases cmpI_cases a.z b.z with ⟨h1, e1⟩ | ⟨h1, e1⟩ | ⟨h1, e1⟩ <;> rcases cmpI_cases a.t b.t with ⟨h2, e2⟩ | ⟨h2, e2⟩ | ⟨h2, e2⟩ <;> rw [e, e1, e2] <;> simp <;> omega
theorem ownC_zero (a b : Ls) : ownC a b = 0 ↔ a.c = b.c ∧ a.z = b.z ∧ a.t = b.t := by
  unfold ownC orL orL orL orL
  rcases cmpI_cases a.c b.c with ⟨h, e⟩ | ⟨h, e⟩ | ⟨h, e⟩ <;> rcases cmpI_cases a.z b.z with ⟨h1, e1⟩ | ⟨h1, e1⟩ | ⟨h1, e1⟩ <;> rcases cmpI_cases a.t b.t with ⟨h2, e2⟩ | ⟨h2, e2⟩ | ⟨h2, e2⟩ <;> rw [e, e1, e2] <;> simp <;> omega
theorem ownC_range (a b : Ls) : -1 ≤ ownC a b ∧ ownC a b ≤ 1 := by
  unfold ownC orL orL orL orL
  rcases cmpI_cases a.c b.c with ⟨h, e⟩ | ⟨h, e⟩ | ⟨h, e⟩ <;> rcases cmpI_cases a.z b.z with ⟨h1, e1⟩ | ⟨h1, e1⟩ | ⟨h1, e1⟩ <;> rcases cmpI_cases a.t b.t with ⟨h2, e2⟩ | ⟨h2, e2⟩ | ⟨h2, e2⟩ <;> rw [e, e1, e2] <;> simp

set_option maxHeartbeats 2000000 in
theorem pByOwner_any (w : World) (a b : Ls) (po po' : Value) :
    Calls Try.prog 65 #[.agg #[.int .i64 a.c, .int .i64 a.z, .int .i64 a.t, po], .agg #[.int .i64 b.c, .int .i64 b.z, .int .i64 b.t, po']] w fun e w' => e = .returned (.int .i64 (ownC a b)) ∧ Below w.heap.size w w' := by
  have hb1 := below_box w (.cells #[.int .i64 a.c, .int .i64 a.z, .int .i64 a.t, po] 57)
  have A1 := zbox_new w (.int .i64 a.c) (.int .i64 a.z) (.int .i64 a.t) po 57
  have hb2 := below_box (w.alloc (.cells #[.int .i64 a.c, .int .i64 a.z, .int .i64 a.t, po] 57)) (.cells #[.int .i64 b.c, .int .i64 b.z, .int .i64 b.t, po'] 57)
  have A2 := zbox_new (w.alloc (.cells #[.int .i64 a.c, .int .i64 a.z, .int .i64 a.t, po] 57)) (.int .i64 b.c) (.int .i64 b.z) (.int .i64 b.t) po' 57
  replace A1 := A1.below hb2
  have hb0 := hb1.trans (hb2.mono hb1.size)
  have hs0 : (w.alloc (.cells #[.int .i64 a.c, .int .i64 a.z, .int .i64 a.t, po] 57)).heap.size = w.heap.size + 1 := by simp
  rw [hs0] at A2
  clear hb1 hb2 hs0
  obtain ⟨W0, hW0⟩ : ∃ W0, (w.alloc (.cells #[.int .i64 a.c, .int .i64 a.z, .int .i64 a.t, po] 57)).alloc (.cells #[.int .i64 b.c, .int .i64 b.z, .int .i64 b.t, po'] 57) = W0 := ⟨_, rfl⟩
  rw [hW0] at A1 A2 hb0
  have HW0 : Hid _ := hW0
  clear hW0
  obtain ⟨x0, h0⟩ : ∃ x, cmpI a.c b.c = x := ⟨_, rfl⟩
  obtain ⟨x1, h1⟩ : ∃ x, cmpI a.z b.z = x := ⟨_, rfl⟩
  obtain ⟨x2, h2⟩ : ∃ x, cmpI a.t b.t = x := ⟨_, rfl⟩
  have HO : Hid (ownC a b = orL [x0, x1, x2]) := by show _ = _; unfold ownC; rw [h0, h1, h2]
  have C0 := fun W => cmpCompare_any W a.c b.c
  have C1 := fun W => cmpCompare_any W a.z b.z
  have C2 := fun W => cmpCompare_any W a.t b.t
  rw [h0] at C0
  rw [h1] at C1
  rw [h2] at C2
  clear h0 h1 h2
  have S1 : Below W0.heap.size W0 { W0 with drawn := W0.drawn + 1 } := (Below.refl W0.heap.size W0).drew
  have m0 : ∀ wx, Below W0.heap.size W0 wx → wx.cell? ⟨w.heap.size, 0, none⟩ = some (.int .i64 a.c) := fun wx h => keep A1.c0 h
  have m1 : ∀ wx, Below W0.heap.size W0 wx → wx.cell? ⟨w.heap.size, 1, none⟩ = some (.int .i64 a.z) := fun wx h => keep A1.c1 h
  have m2 : ∀ wx, Below W0.heap.size W0 wx → wx.cell? ⟨w.heap.size, 2, none⟩ = some (.int .i64 a.t) := fun wx h => keep A1.c2 h
  have n0 : ∀ wx, Below W0.heap.size W0 wx → wx.cell? ⟨w.heap.size + 1, 0, none⟩ = some (.int .i64 b.c) := fun wx h => keep A2.c0 h
  have n1 : ∀ wx, Below W0.heap.size W0 wx → wx.cell? ⟨w.heap.size + 1, 1, none⟩ = some (.int .i64 b.z) := fun wx h => keep A2.c1 h
  have n2 : ∀ wx, Below W0.heap.size W0 wx → wx.cell? ⟨w.heap.size + 1, 2, none⟩ = some (.int .i64 b.t) := fun wx h => keep A2.c2 h
  go_enter Try.func65, Try.ntmps65
  go_wp2_with (rw [HW0.out])
  clear HW0
  refine wp_region_peel (S := fun wx => Below W0.heap.size W0 wx) 17 _ (by kernel_rfl) (by kernel_rfl) rfl ?_
  simp only [List.take_succ_cons, List.take_zero]
  refine takeH 0 (v := .pointer (some ⟨w.heap.size, 0, none⟩)) rfl (by kernel_rfl) (by kernel_rfl) (by kernel_rfl) (fun _ _ _ h => h) rfl (fun wx hSx => ?_) S1 ?_
  · go_simp
  try simp only [Act.put, List.setIfInBounds_toArray, List.set_cons_zero, List.set_cons_succ]
  refine takeH 1 (v := .int .i64 a.c) rfl (by kernel_rfl) (by kernel_rfl) (by kernel_rfl) (fun _ _ _ h => h) rfl (fun wx hSx => ?_) S1 ?_
  · go_simp
  try simp only [Act.put, List.setIfInBounds_toArray, List.set_cons_zero, List.set_cons_succ]
  refine takeH 2 (v := .pointer (some ⟨w.heap.size + 1, 0, none⟩)) rfl (by kernel_rfl) (by kernel_rfl) (by kernel_rfl) (fun _ _ _ h => h) rfl (fun wx hSx => ?_) S1 ?_
  · go_simp
  try simp only [Act.put, List.setIfInBounds_toArray, List.set_cons_zero, List.set_cons_succ]
  refine takeH 3 (v := .int .i64 b.c) rfl (by kernel_rfl) (by kernel_rfl) (by kernel_rfl) (fun _ _ _ h => h) rfl (fun wx hSx => ?_) S1 ?_
  · go_simp
  try simp only [Act.put, List.setIfInBounds_toArray, List.set_cons_zero, List.set_cons_succ]
  refine takeH 5 (v := .pointer (some ⟨w.heap.size, 1, none⟩)) rfl (by kernel_rfl) (by kernel_rfl) (by kernel_rfl) (fun _ _ _ h => h) rfl (fun wx hSx => ?_) S1 ?_
  · go_simp
  try simp only [Act.put, List.setIfInBounds_toArray, List.set_cons_zero, List.set_cons_succ]
  refine takeH 6 (v := .int .i64 a.z) rfl (by kernel_rfl) (by kernel_rfl) (by kernel_rfl) (fun _ _ _ h => h) rfl (fun wx hSx => ?_) S1 ?_
  · go_simp
  try simp only [Act.put, List.setIfInBounds_toArray, List.set_cons_zero, List.set_cons_succ]
  refine takeH 7 (v := .pointer (some ⟨w.heap.size + 1, 1, none⟩)) rfl (by kernel_rfl) (by kernel_rfl) (by kernel_rfl) (fun _ _ _ h => h) rfl (fun wx hSx => ?_) S1 ?_
  · go_simp
  try simp only [Act.put, List.setIfInBounds_toArray, List.set_cons_zero, List.set_cons_succ]
  refine takeH 8 (v := .int .i64 b.z) rfl (by kernel_rfl) (by kernel_rfl) (by kernel_rfl) (fun _ _ _ h => h) rfl (fun wx hSx => ?_) S1 ?_
  · go_simp
  try simp only [Act.put, List.setIfInBounds_toArray, List.set_cons_zero, List.set_cons_succ]
  refine takeH 10 (v := .pointer (some ⟨w.heap.size, 2, none⟩)) rfl (by kernel_rfl) (by kernel_rfl) (by kernel_rfl) (fun _ _ _ h => h) rfl (fun wx hSx => ?_) S1 ?_
  · go_simp
  try simp only [Act.put, List.setIfInBounds_toArray, List.set_cons_zero, List.set_cons_succ]
  refine takeH 11 (v := .int .i64 a.t) rfl (by kernel_rfl) (by kernel_rfl) (by kernel_rfl) (fun _ _ _ h => h) rfl (fun wx hSx => ?_) S1 ?_
  · go_simp
  try simp only [Act.put, List.setIfInBounds_toArray, List.set_cons_zero, List.set_cons_succ]
  refine takeH 12 (v := .pointer (some ⟨w.heap.size + 1, 2, none⟩)) rfl (by kernel_rfl) (by kernel_rfl) (by kernel_rfl) (fun _ _ _ h => h) rfl (fun wx hSx => ?_) S1 ?_
  · go_simp
  try simp only [Act.put, List.setIfInBounds_toArray, List.set_cons_zero, List.set_cons_succ]
  refine takeH 13 (v := .int .i64 b.t) rfl (by kernel_rfl) (by kernel_rfl) (by kernel_rfl) (fun _ _ _ h => h) rfl (fun wx hSx => ?_) S1 ?_
  · go_simp
  try simp only [Act.put, List.setIfInBounds_toArray, List.set_cons_zero, List.set_cons_succ]
  refine oneH 4 (by kernel_rfl) rfl rfl (fun K4 hK4 => ?_)
  go_simp
  refine (C0 _).mono ?_
  rintro e wq ⟨rfl, rfl⟩
  refine hK4 _ _ S1 ?_
  try simp only [Act.put, List.setIfInBounds_toArray, List.set_cons_zero, List.set_cons_succ]
  refine oneH 9 (by kernel_rfl) rfl rfl (fun K9 hK9 => ?_)
  go_simp
  refine (C1 _).mono ?_
  rintro e wq ⟨rfl, rfl⟩
  refine hK9 _ _ S1 ?_
  try simp only [Act.put, List.setIfInBounds_toArray, List.set_cons_zero, List.set_cons_succ]
  refine oneH 14 (by kernel_rfl) rfl rfl (fun K14 hK14 => ?_)
  go_simp
  refine (C2 _).mono ?_
  rintro e wq ⟨rfl, rfl⟩
  refine hK14 _ _ S1 ?_
  try simp only [Act.put, List.setIfInBounds_toArray, List.set_cons_zero, List.set_cons_succ]
  refine oneH 15 (by kernel_rfl) rfl rfl (fun K5 hK5 => ?_)
  go_simp
  have SA : Below W0.heap.size W0 (W0.alloc (.cells #[.int .i64 x0, .int .i64 x1, .int .i64 x2] 3)).drew := ((Below.refl _ _).alloc (Nat.le_refl _) _).drew
  have hN : Nums (W0.alloc (.cells #[.int .i64 x0, .int .i64 x1, .int .i64 x2] 3)).drew (some ⟨W0.heap.size, 0, none⟩) 3 [x0, x1, x2] := by
    refine ⟨rfl, by omega, fun i hi => ⟨W0.heap.size, 0, rfl, ?_⟩⟩
    have hc := cell_three_new W0 (.int .i64 x0) (.int .i64 x1) (.int .i64 x2) 3
    have hi' : i < 3 := by simpa using hi
    have h2 : (W0.alloc (.cells #[.int .i64 x0, .int .i64 x1, .int .i64 x2] 3)).drew.cell? ⟨W0.heap.size, i, none⟩ = (W0.alloc (.cells #[.int .i64 x0, .int .i64 x1, .int .i64 x2] 3)).cell? ⟨W0.heap.size, i, none⟩ := rfl
    rw [Nat.zero_add, h2]
    rcases (show i = 0 ∨ i = 1 ∨ i = 2 by omega) with rfl | rfl | rfl
    · exact hc 0 _ rfl
    · exact hc 1 _ rfl
    · exact hc 2 _ rfl
  refine hK5 _ _ SA ?_
  try simp only [Act.put, List.setIfInBounds_toArray, List.set_cons_zero, List.set_cons_succ]
  have HC := cmpOr_any _ (some ⟨W0.heap.size, 0, none⟩) 3 3 [x0, x1, x2] hN
  obtain ⟨V, hV⟩ : ∃ V, (W0.alloc (.cells #[.int .i64 x0, .int .i64 x1, .int .i64 x2] 3)).drew = V := ⟨_, rfl⟩
  rw [hV] at SA HC ⊢
  obtain ⟨R, hR⟩ : ∃ R, orL [x0, x1, x2] = R := ⟨_, rfl⟩
  rw [hR] at HC
  have HR : Hid _ := hR
  clear hV hN hR
  refine oneH 16 (by kernel_rfl) rfl rfl (fun K6 hK6 => ?_)
  go_simp
  refine HC.mono ?_
  rintro e wq ⟨rfl, rfl⟩
  refine hK6 _ _ SA ?_
  try simp only [Act.put, List.setIfInBounds_toArray, List.set_cons_zero, List.set_cons_succ]
  refine wpAnyH_done (by kernel_rfl) ?_ _
  show Oper.wp _ _ _ _ _ _
  have hB := hb0.trans (SA.mono hb0.size)
  clear hK4 hK9 hK14 hK5 hK6 m0 m1 m2 n0 n1 n2 A1 A2 C0 C1 C2 HC S1
  go_wp2
  go_ret
  exact ⟨by rw [HO.out, HR.out]; rfl, hB⟩

end Go.Proofs.Ytbjlbmofdnkmiaa

/-
  OWN TEXT. Contracts of slices.IndexFunc and slices.ContainsFunc over numbers, whatever the closure.
-/
namespace Go.Proofs.Ytbjlbmofdnkmiaa
open Go Go.RowKit Go.Proofs.Ytbjlbmofdnkmiaa.Kit

/-- What the closure does at the numbers of a list, whatever new memory there is. -/
def HoldsI (F : Nat) (caps : Array Value) (l : List Int) (g : Int → Bool) (w : World) : Prop :=
  ∀ (i : Nat), i < l.length → ∀ W : World, Below w.heap.size w W → Calls Try.prog F (#[Value.int .i64 (l.getD i 0)] ++ caps) W fun e W' => e = .returned (.bool (g (l.getD i 0))) ∧ Below W.heap.size W W'

/-- The first place at which it holds is returned, or -1. -/
def FoundI (e : Ending) (l : List Int) (g : Int → Bool) : Prop :=
  (∃ k : Nat, k < l.length ∧ e = .returned (.int .i64 (k : Int)) ∧ g (l.getD k 0) = true ∧ ∀ j, j < k → g (l.getD j 0) = false) ∨ (e = .returned (.int .i64 (-1)) ∧ ∀ j, j < l.length → g (l.getD j 0) = false)

set_option maxHeartbeats 1000000 in
theorem iIndex_any (w : World) (F : Nat) (caps : Array Value) (ao : Option Addr) (n cap : Nat) (l : List Int) (g : Int → Bool) (h : Nums w ao n l)
    (hcall : ∀ args W, (callFunc F args).run Try.prog W = .ok (.enter F args) W) (hc : HoldsI F caps l g w) :
    Calls Try.prog 99 #[.slice ao n cap, .func (.func F) #[] caps] w fun e w' => FoundI e l g ∧ Below w.heap.size w w' := by
  have hlen := h.len
  have hrch := h.reach
  go_enter Try.func99, Try.ntmps99
  go_wp2
  go_loopw [8] (fun i wr => ∃ k : Nat, k ≤ n ∧ i = .int .i64 k ∧ Hid (∀ j, j < k → g (l.getD j 0) = false) ∧ Below w.heap.size w wr) (fun i _ => n - (intOf i).toNat)
  case atStart => exact ⟨0, Nat.zero_le _, rfl, (fun j hj => absurd hj (Nat.not_lt_zero j)), Below.refl _ _⟩
  case round =>
    obtain ⟨k, hk, rfl, hN, hb⟩ := hrel
    by_cases hlt : k < n
    · obtain ⟨b, o, rfl, c0⟩ := h.at_ k (by omega)
      have hc1 := hc k (by omega) wr hb
      obtain ⟨x, hr⟩ : ∃ x, l.getD k 0 = x := ⟨_, rfl⟩
      have HR : Hid (l.getD k 0 = x) := hr
      rw [hr] at c0 hc1
      clear hr
      have d0 := keep c0 hb
      clear c0
      go_wp2_with fail
      refine hc1.mono ?_
      rintro e w1 ⟨rfl, hb1⟩
      have hB := hb.trans (hb1.mono hb.size)
      clear hc1 d0 hc
      cases hg : g x with
      | true =>
        have HT : Hid (g (l.getD k 0) = true) := by show _ = _; rw [HR.out]; exact hg
        clear hg
        go_wp2
        go_ret
        exact ⟨.inl ⟨k, by omega, rfl, HT.out, hN.out⟩, hB⟩
      | false =>
        have HF : Hid (∀ j, j < k + 1 → g (l.getD j 0) = false) := fun j hj => by
          by_cases e : j = k
          · rw [e, HR.out]; exact hg
          · exact hN.out j (by omega)
        clear hg hN
        go_wp2
        go_roundw
        case rel => exact ⟨k + 1, by omega, by go_num, HF, hB⟩
        case measure => simp [intOf]; omega
    · have HF : Hid (∀ j, j < l.length → g (l.getD j 0) = false) := fun j hj => hN.out j (by omega)
      clear hN hc
      go_wp2
      go_ret
      exact ⟨.inr ⟨rfl, HF.out⟩, hb⟩

theorem anyI_of_found {l : List Int} {g : Int → Bool} {k : Nat} (hk : k < l.length) (h : g (l.getD k 0) = true) : l.any g = true := by
  rw [List.any_eq_true]
  exact ⟨l[k], List.getElem_mem _, by rw [List.getD_eq_getElem?_getD, List.getElem?_eq_getElem hk] at h; exact h⟩
theorem anyI_of_none {l : List Int} {g : Int → Bool} (h : ∀ j, j < l.length → g (l.getD j 0) = false) : l.any g = false := by
  rw [List.any_eq_false]
  intro x hx
  obtain ⟨i, hi, rfl⟩ := List.getElem_of_mem hx
  have := h i hi
  rw [List.getD_eq_getElem?_getD, List.getElem?_eq_getElem hi] at this
  simp only [Option.getD_some] at this
  simp [this]

set_option maxHeartbeats 1000000 in
theorem iContains_any (w : World) (F : Nat) (caps : Array Value) (ao : Option Addr) (n cap : Nat) (l : List Int) (g : Int → Bool) (h : Nums w ao n l)
    (hcall : ∀ args W, (callFunc F args).run Try.prog W = .ok (.enter F args) W) (hc : HoldsI F caps l g w) :
    Calls Try.prog 78 #[.slice ao n cap, .func (.func F) #[] caps] w fun e w' => e = .returned (.bool (l.any g)) ∧ Below w.heap.size w w' := by
  go_enter Try.func78, Try.ntmps78
  go_wp2_with fail
  go_at_call 99
  refine (iIndex_any w F caps ao n cap l g h hcall hc).mono ?_
  rintro e w1 ⟨hf, hb⟩
  rcases hf with ⟨k, hk, rfl, hg, _⟩ | ⟨rfl, hg⟩
  · have HF : Hid (l.any g = true) := anyI_of_found hk hg
    clear hg hc
    go_wp2
    go_ret
    exact ⟨ret_bool HF.out.symm, hb⟩
  · have HF : Hid (l.any g = false) := anyI_of_none hg
    clear hg hc
    go_wp2
    go_ret
    exact ⟨ret_bool HF.out.symm, hb⟩

end Go.Proofs.Ytbjlbmofdnkmiaa

/-
  OWN TEXT. Contracts of the code: pages.listMayBe.
-/
namespace Go.Proofs.Ytbjlbmofdnkmiaa
open Go Go.RowKit Go.Proofs.Ytbjlbmofdnkmiaa.Kit

theorem listMayF_call (args : Array Value) (W : World) : (callFunc 79 args).run Try.prog W = .ok (.enter 79 args) W := by kernel_rfl

set_option maxHeartbeats 1000000 in
theorem listMayF_any (w : World) (hb lb : Nat) (zo : Option Addr) (zn zc : Nat) (zs : List Zc) (k : Nat) (p : Int) (hz : Zons w zo zn zs) (hk : k < zn) (h0 : w.cell? ⟨hb, 0, none⟩ = some (.slice zo zn zc)) (h1 : w.cell? ⟨lb, 1, none⟩ = some (.int .i64 (k : Int))) :
    Calls Try.prog 79 #[.int .i64 p, .pointer (some ⟨hb, 0, none⟩), .pointer (some ⟨lb, 0, none⟩)] w fun e w' => e = .returned (.bool (!inB p (zs.getD k .zero).z.f ((zs.getD k .zero).z.t - 1))) ∧ Below w.heap.size w w' := by
  obtain ⟨g, off, z, fo, fn, fc, to_, tn, tc, rfl, c0, c1, c2, c3, _, hX⟩ := hz.at k hk
  rw [hX.out]
  have HP := pIsPage_any w z.f z.t p (.slice fo fn fc) (.slice to_ tn tc)
  have hr := hz.reach
  dsimp only
  obtain ⟨r, hrr⟩ : ∃ r, inB p z.f (z.t - 1) = r := ⟨_, rfl⟩
  rw [hrr] at HP ⊢
  clear hrr hX hz
  go_enter Try.func79, Try.ntmps79
  go_wp2_with fail
  go_at_call 80
  refine HP.mono ?_
  rintro e w1 ⟨rfl, hb1⟩
  clear HP c0 c1 c2 c3 h0 h1
  go_wp2
  go_ret
  exact ⟨rfl, hb1⟩

/-- A list may be, as the code asks for it. -/
structure LsOkX (x : Hx) (l : Ls) : Prop where
  c : 0 ≤ l.c ∧ l.c ≤ x.cpus - 1
  z : 0 ≤ l.z ∧ l.z < x.zn
  t : 0 ≤ l.t ∧ l.t ≤ 2
  n : 1 ≤ l.pages.length ∧ l.pages.length ≤ 8
  p : ∀ i, i < l.pages.length → (x.zs.getD l.z.toNat .zero).z.f ≤ l.pages.getD i 0 ∧ l.pages.getD i 0 < (x.zs.getD l.z.toNat .zero).z.t

set_option maxHeartbeats 4000000 in
theorem pListMay_any (w : World) (x : Hx) (l : Ls) (po : Option Addr) (pn pc : Nat) (hx : x.At w) (hp : Nums w po pn l.pages) :
    Calls Try.prog 64 #[.agg #[.slice x.zo x.zn x.zc, .slice x.mo x.mn x.mc, .int .i64 x.cpus, .slice x.lo x.ln x.lc, .slice x.vo x.vn x.vc], .agg #[.int .i64 l.c, .int .i64 l.z, .int .i64 l.t, .slice po pn pc]] w fun e w' => RetIff e (LsOkX x l) ∧ Below w.heap.size w w' := by
  have hb1 := below_box w (.cells #[.slice x.zo x.zn x.zc, .slice x.mo x.mn x.mc, .int .i64 x.cpus, .slice x.lo x.ln x.lc, .slice x.vo x.vn x.vc] 28)
  have A1 := hbox_new w (.slice x.zo x.zn x.zc) (.slice x.mo x.mn x.mc) (.int .i64 x.cpus) (.slice x.lo x.ln x.lc) (.slice x.vo x.vn x.vc) 28
  have hb2 := below_box (w.alloc (.cells #[.slice x.zo x.zn x.zc, .slice x.mo x.mn x.mc, .int .i64 x.cpus, .slice x.lo x.ln x.lc, .slice x.vo x.vn x.vc] 28)) (.cells #[.int .i64 l.c, .int .i64 l.z, .int .i64 l.t, .slice po pn pc] 57)
  have A2 := zbox_new (w.alloc (.cells #[.slice x.zo x.zn x.zc, .slice x.mo x.mn x.mc, .int .i64 x.cpus, .slice x.lo x.ln x.lc, .slice x.vo x.vn x.vc] 28)) (.int .i64 l.c) (.int .i64 l.z) (.int .i64 l.t) (.slice po pn pc) 57
  replace A1 := A1.below hb2
  have hb0 := hb1.trans (hb2.mono hb1.size)
  have hs0 : (w.alloc (.cells #[.slice x.zo x.zn x.zc, .slice x.mo x.mn x.mc, .int .i64 x.cpus, .slice x.lo x.ln x.lc, .slice x.vo x.vn x.vc] 28)).heap.size = w.heap.size + 1 := by simp
  rw [hs0] at A2
  clear hb1 hb2 hs0
  obtain ⟨W0, hW0⟩ : ∃ W0, (w.alloc (.cells #[.slice x.zo x.zn x.zc, .slice x.mo x.mn x.mc, .int .i64 x.cpus, .slice x.lo x.ln x.lc, .slice x.vo x.vn x.vc] 28)).alloc (.cells #[.int .i64 l.c, .int .i64 l.z, .int .i64 l.t, .slice po pn pc] 57) = W0 := ⟨_, rfl⟩
  rw [hW0] at A1 A2 hb0
  have HW0 : Hid _ := hW0
  clear hW0
  have hz := hx.zones.below hb0
  replace hp := hp.below hb0
  have hlen := hp.len
  have rz := hz.reach
  have rp := hp.reach
  have HC := pIsCpu_any W0 (.slice x.zo x.zn x.zc) (.slice x.mo x.mn x.mc) (.slice x.lo x.ln x.lc) (.slice x.vo x.vn x.vc) x.cpus l.c
  have HT := fun W => pIsType_any W l.t
  have a0 := A1.c0
  have a1 := A1.c1
  have a2 := A1.c2
  have a3 := A1.c3
  have a4 := A1.c4
  have b0 := A2.c0
  go_enter Try.func64, Try.ntmps64
  go_wp2_with (rw [HW0.out])
  go_at_call 45
  refine HC.mono ?_
  rintro e W1 ⟨rfl, hb1⟩
  clear HC HW0 a0 a1 a2 a3 a4 b0
  replace A1 := A1.below hb1
  replace A2 := A2.below hb1
  replace hz := hz.below hb1
  replace hp := hp.below hb1
  have hB1 := hb0.trans (hb1.mono hb0.size)
  have a0 := A1.c0
  have b0 := A2.c0
  have b1 := A2.c1
  have b2 := A2.c2
  have b3 := A2.c3
  have HN : ∀ e, (e = Ending.returned (.bool false)) → ¬ LsOkX x l → RetIff e (LsOkX x l) := fun e he hn => ⟨false, he, by simp [hn]⟩
  have HN' : Hid _ := HN
  clear HN
  by_cases h1 : 0 ≤ l.c ∧ l.c ≤ x.cpus - 1
  · rw [inB_t h1]
    by_cases h2 : 0 ≤ l.z
    · by_cases h3 : l.z < x.zn
      · go_wp2_with fail
        go_at_call 67
        refine (HT _).mono ?_
        rintro e W2 ⟨rfl, rfl⟩
        by_cases h4 : 0 ≤ l.t ∧ l.t ≤ 2
        · rw [inB_t h4]
          by_cases h5 : (pn : Int) < 1
          · have hn : Hid (¬ LsOkX x l) := fun h => by have := h.n; omega
            go_wp2
            go_ret
            exact ⟨HN'.out _ rfl hn.out, hB1⟩
          · by_cases h6 : (8 : Int) < pn
            · have hn : Hid (¬ LsOkX x l) := fun h => by have := h.n; omega
              go_wp2
              go_ret
              exact ⟨HN'.out _ rfl hn.out, hB1⟩
            · obtain ⟨k, hk⟩ : ∃ k : Nat, l.z = k := ⟨l.z.toNat, by omega⟩
              have hkn : k < x.zn := by omega
              have b1' := b1
              rw [hk] at b1'
              have HI := iContains_any W1 79 #[.pointer (some ⟨w.heap.size, 0, none⟩), .pointer (some ⟨w.heap.size + 1, 0, none⟩)] po pn pc l.pages (fun p => !inB p (x.zs.getD k .zero).z.f ((x.zs.getD k .zero).z.t - 1)) hp listMayF_call (fun i hi W hW => listMayF_any W w.heap.size (w.heap.size + 1) x.zo x.zn x.zc x.zs k _ (hz.below hW) hkn (keep a0 hW) (keep b1' hW))
              have HK : Hid (l.z = k) := hk
              clear hk b1'
              go_wp2_with fail
              go_at_call 78
              refine HI.mono ?_
              rintro e W2 ⟨rfl, hb2⟩
              have hB2 := hB1.trans (hb2.mono hB1.size)
              have hfin : Hid (((!(l.pages.any fun p => !inB p (x.zs.getD k .zero).z.f ((x.zs.getD k .zero).z.t - 1))) = true) ↔ LsOkX x l) := by
                show _ ↔ _
                rw [Bool.not_eq_true', List.any_eq_false]
                constructor
                · intro h
                  refine ⟨h1, by rw [HK.out]; omega, h4, by omega, fun i hi => ?_⟩
                  have := h (l.pages.getD i 0) (getD_mem hi)
                  simp only [Bool.not_eq_true, Bool.not_eq_false'] at this
                  have := of_decide_eq_true this
                  rw [HK.out]
                  simp only [Int.toNat_natCast]
                  omega
                · intro h p hp
                  obtain ⟨i, hi, rfl⟩ := List.getElem_of_mem hp
                  have := h.p i hi
                  have e : l.pages.getD i 0 = l.pages[i] := by rw [List.getD_eq_getElem?_getD, List.getElem?_eq_getElem hi]; rfl
                  rw [HK.out, e] at this
                  simp only [Int.toNat_natCast] at this
                  rw [inB_t (by omega)]
                  simp
              generalize (l.pages.any fun p => !inB p (x.zs.getD k .zero).z.f ((x.zs.getD k .zero).z.t - 1)) = r at hfin ⊢
              clear HI b0 b1 b2 b3 a0
              go_wp2
              go_ret
              exact ⟨⟨_, rfl, hfin.out⟩, hB2⟩
        · rw [inB_f h4]
          have hn : Hid (¬ LsOkX x l) := fun h => h4 h.t
          go_wp2
          go_ret
          exact ⟨HN'.out _ rfl hn.out, hB1⟩
      · have hn : Hid (¬ LsOkX x l) := fun h => h3 h.z.2
        go_wp2
        go_ret
        exact ⟨HN'.out _ rfl hn.out, hB1⟩
    · have hn : Hid (¬ LsOkX x l) := fun h => h2 h.z.1
      go_wp2
      go_ret
      exact ⟨HN'.out _ rfl hn.out, hB1⟩
  · rw [inB_f h1]
    have hn : Hid (¬ LsOkX x l) := fun h => h1 h.c
    go_wp2
    go_ret
    exact ⟨HN'.out _ rfl hn.out, hB1⟩

end Go.Proofs.Ytbjlbmofdnkmiaa
