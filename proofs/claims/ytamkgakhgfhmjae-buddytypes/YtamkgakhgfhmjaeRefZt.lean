/-
  OWN TEXT. Contracts of the document's answer: PagesOf, TypeOf.
-/
import Derived.Test.YtamkgakhgfhmjaeRefZm
import Derived.Test.YtamkgakhgfhmjaeRefZq
import Derived.Test.YtamkgakhgfhmjaeZTyp
namespace Go.Proofs.Ytamkgakhgfhmjae
open Go Go.RowKit Go.Proofs.Ytamkgakhgfhmjae.Kit

theorem may_ords {z : Zn} (h : ZMay z) : ∀ i, i < z.free.length → ordOk (z.free.getD i .zero).o := fun _ hi => (freeOk_at h.free hi rfl).1.1

set_option maxHeartbeats 1000000 in
theorem pagesOf_no (w : World) (fo : Option Addr) (fn fc : Nat) (to_ : Option Addr) (tn tc : Nat) (z : Zn) (h : ZnAt w fo fn to_ tn z) (hM : ¬ ZMay z) :
    Calls Try.prog 8 #[.agg #[.int .i64 z.f, .int .i64 z.t, .slice fo fn fc, .slice to_ tn tc]] w fun e w' => e = .returned (.tuple #[.int .i64 0, .int .i64 8]) ∧ Below w.heap.size w w' := by
  have I0 := myInv_first w fo fn fc to_ tn tc z h
  have c0 := I0.box.c0
  have c1 := I0.box.c1
  have c2 := I0.box.c2
  have c3 := I0.box.c3
  clear h
  go_enter Try.func8, Try.ntmps8
  go_wp2_with fail
  go_at_call 18
  refine (zoneMay_any _ fo fn fc to_ tn tc z I0.zn).mono ?_
  rintro e w1 ⟨⟨r, rfl, hr⟩, hb1⟩
  have hbb := (I0.step hb1).b
  obtain rfl : r = false := by
    cases r with
    | false => rfl
    | true => exact absurd (hr.1 rfl) hM
  clear hr hM I0 hb1 c0 c1 c2 c3
  go_wp2
  go_ret2
  exact ⟨rfl, hbb⟩

set_option maxHeartbeats 1000000 in
theorem pagesOf_ok (w : World) (fo : Option Addr) (fn fc : Nat) (to_ : Option Addr) (tn tc : Nat) (z : Zn) (h : ZnAt w fo fn to_ tn z) (hM : ZMay z) :
    Calls Try.prog 8 #[.agg #[.int .i64 z.f, .int .i64 z.t, .slice fo fn fc, .slice to_ tn tc]] w fun e w' => e = .returned (.tuple #[.int .i64 (freeN z.free), .int .i64 0]) ∧ Below w.heap.size w w' := by
  have I0 := myInv_first w fo fn fc to_ tn tc z h
  have c0 := I0.box.c0
  have c1 := I0.box.c1
  have c2 := I0.box.c2
  have c3 := I0.box.c3
  clear h
  go_enter Try.func8, Try.ntmps8
  go_wp2_with fail
  go_at_call 18
  refine (zoneMay_any _ fo fn fc to_ tn tc z I0.zn).mono ?_
  rintro e w1 ⟨⟨r, rfl, hr⟩, hb1⟩
  have I1 := I0.step hb1
  obtain rfl : r = true := hr.2 hM
  have HF := freeOf_any w1 fo fn fc z.free I1.zn.free (may_ords hM)
  obtain ⟨N, hN⟩ : ∃ N, freeN z.free = N := ⟨_, rfl⟩
  rw [hN] at HF
  have HN : Hid _ := hN
  have hbb := I1.b
  replace c2 := I1.box.c2
  clear hr hM I0 hb1 c0 c1 c3 hN I1
  go_wp2_with fail
  go_at_call 19
  refine HF.mono ?_
  rintro e w2 ⟨rfl, d, rfl⟩
  clear HF
  go_wp2
  go_ret2
  exact ⟨by rw [HN.out]; rfl, hbb.trans (below_drewN (Below.refl _ _) _)⟩

set_option maxHeartbeats 1000000 in
theorem typeOf_no (w : World) (fo : Option Addr) (fn fc : Nat) (to_ : Option Addr) (tn tc : Nat) (z : Zn) (a : Int) (h : ZnAt w fo fn to_ tn z) (hM : ¬ ZMay z) :
    Calls Try.prog 10 #[.agg #[.int .i64 z.f, .int .i64 z.t, .slice fo fn fc, .slice to_ tn tc], .int .i64 a] w fun e w' => e = .returned (.tuple #[.int .i64 0, .int .i64 8]) ∧ Below w.heap.size w w' := by
  have I0 := myInv_first w fo fn fc to_ tn tc z h
  have c0 := I0.box.c0
  have c1 := I0.box.c1
  have c2 := I0.box.c2
  have c3 := I0.box.c3
  clear h
  go_enter Try.func10, Try.ntmps10
  go_wp2_with fail
  go_at_call 18
  refine (zoneMay_any _ fo fn fc to_ tn tc z I0.zn).mono ?_
  rintro e w1 ⟨⟨r, rfl, hr⟩, hb1⟩
  have hbb := (I0.step hb1).b
  obtain rfl : r = false := by
    cases r with
    | false => rfl
    | true => exact absurd (hr.1 rfl) hM
  clear hr hM I0 hb1 c0 c1 c2 c3
  go_wp2
  go_ret2
  exact ⟨rfl, hbb⟩

set_option maxHeartbeats 1000000 in
theorem typeOf_range (w : World) (fo : Option Addr) (fn fc : Nat) (to_ : Option Addr) (tn tc : Nat) (z : Zn) (a : Int) (h : ZnAt w fo fn to_ tn z) (hM : ZMay z) (ha : ¬ (z.f ≤ a ∧ a ≤ z.t - 1)) :
    Calls Try.prog 10 #[.agg #[.int .i64 z.f, .int .i64 z.t, .slice fo fn fc, .slice to_ tn tc], .int .i64 a] w fun e w' => e = .returned (.tuple #[.int .i64 0, .int .i64 1]) ∧ Below w.heap.size w w' := by
  have I0 := myInv_first w fo fn fc to_ tn tc z h
  have c0 := I0.box.c0
  have c1 := I0.box.c1
  have c2 := I0.box.c2
  have c3 := I0.box.c3
  clear h
  go_enter Try.func10, Try.ntmps10
  go_wp2_with fail
  go_at_call 18
  refine (zoneMay_any _ fo fn fc to_ tn tc z I0.zn).mono ?_
  rintro e w1 ⟨⟨r, rfl, hr⟩, hb1⟩
  have I1 := I0.step hb1
  obtain rfl : r = true := hr.2 hM
  obtain ⟨h1, h2, h3, h4, h5⟩ := hM.new
  have hbb := I1.b
  replace c0 := I1.box.c0
  replace c1 := I1.box.c1
  have e1 : inB a z.f (z.t - 1) = false := inB_f ha
  clear hr hM I0 hb1 c2 c3 I1 ha
  go_wp2_with (go_at_call 22; refine (in_any _ _ _ _).mono ?_; rintro e w' ⟨rfl, rfl⟩)
  go_ret2
  exact ⟨rfl, hbb⟩

set_option maxHeartbeats 1000000 in
theorem typeOf_ok (w : World) (fo : Option Addr) (fn fc : Nat) (to_ : Option Addr) (tn tc : Nat) (z : Zn) (a : Int) (h : ZnAt w fo fn to_ tn z) (hM : ZMay z) (ha : z.f ≤ a ∧ a ≤ z.t - 1) :
    Calls Try.prog 10 #[.agg #[.int .i64 z.f, .int .i64 z.t, .slice fo fn fc, .slice to_ tn tc], .int .i64 a] w fun e w' => e = .returned (.tuple #[.int .i64 (typeZ z a), .int .i64 0]) ∧ Below w.heap.size w w' := by
  have I0 := myInv_first w fo fn fc to_ tn tc z h
  have c0 := I0.box.c0
  have c1 := I0.box.c1
  have c2 := I0.box.c2
  have c3 := I0.box.c3
  clear h
  go_enter Try.func10, Try.ntmps10
  go_wp2_with fail
  go_at_call 18
  refine (zoneMay_any _ fo fn fc to_ tn tc z I0.zn).mono ?_
  rintro e w1 ⟨⟨r, rfl, hr⟩, hb1⟩
  have I1 := I0.step hb1
  obtain rfl : r = true := hr.2 hM
  obtain ⟨h1, h2, h3, h4, h5⟩ := hM.new
  have hbb := I1.b
  replace c0 := I1.box.c0
  replace c1 := I1.box.c1
  replace c3 := I1.box.c3
  have e1 : inB a z.f (z.t - 1) = true := inB_t ha
  have hlen := hM.len
  have htl := I1.zn.types.len
  obtain ⟨K, hK⟩ : ∃ K : Nat, (a - z.f) / 8 = (K : Int) := ⟨((a - z.f) / 8).toNat, by omega⟩
  have hKn : K < tn := by omega
  obtain ⟨b, o, x, rfl, cx, hX⟩ := I1.zn.types.at_.at K (by omega)
  have HT : Hid (typeZ z a = x) := by show _ = _; unfold typeZ; rw [hK]; simpa using hX.out
  obtain ⟨D, hD⟩ : ∃ D : Nat, a - z.f = (D : Int) := ⟨(a - z.f).toNat, by omega⟩
  have hDK : D / 8 = K := by omega
  clear hr hM I0 hb1 c2 I1 hX hlen
  go_wp2_with (go_at_call 22; refine (in_any _ _ _ _).mono ?_; rintro e w' ⟨rfl, rfl⟩)
  go_ret2
  exact ⟨by rw [HT.out]; rfl, hbb⟩

end Go.Proofs.Ytamkgakhgfhmjae
